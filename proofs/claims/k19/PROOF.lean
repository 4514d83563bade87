import PyProof.Rows.All
import Wide.All
import OpenK.AllK
import Wide.FinOn
import Lean
import PyProof.EqAt
import PyProof.EqKinds
import PyProof.TupleCall
import PySem.Challenge.RW_lostblock_k19_states_by_choices
set_option Elab.async false
set_option linter.all false
set_option maxRecDepth 100000
def PySem.W.Fast.tw17873997961479667239:=()
def PySem.W.Fast.tw6382798031885251139:=()
def PySem.W.Fast.tw15340063877422596720:=()
def PySem.W.Fast.tw3385978618939736632:=()
def PySem.W.Fast.tw3596749500540719199:=()
def PySem.W.Fast.tw18243209475257167873:=()
def PySem.W.Fast.tw3044929016571389282:=()
def PySem.W.Fast.tw11462213393281423186:=()
def PySem.W.Fast.tw16964691425313943503:=()
def PySem.W.Fast.tw2515594453281943317:=()
def PySem.W.Fast.tw17516682430554713818:=()
def PySem.W.Fast.tw8649480675320098461:=()
def PySem.W.Fast.tw17153284003464674755:=()
def PySem.W.Fast.tw4173166885147449962:=()
def PySem.W.Fast.tw13297589791936357446:=()
def PySem.W.Fast.tw12987624679043844560:=()
def PySem.W.Fast.tw3225155778460318675:=()
def PySem.W.Fast.tw6215011016276586773:=()
def PySem.W.Fast.tw730716539339150341:=()
def PySem.W.Fast.tw1214158416332333420:=()
def PySem.W.Fast.tw16676250709778682009:=()
def PySem.W.Fast.tw4787076868663109268:=()
def PySem.W.Fast.tw9094964470660133995:=()
def PySem.W.Fast.tw7591910360989473505:=()
def PySem.W.Fast.tw1719555467132732285:=()
def PySem.W.Fast.tw10344064428511842704:=()
def PySem.W.Fast.tw4375330745900133103:=()
def PySem.W.Fast.tw7408917309545667345:=()
def PySem.W.Fast.tw2634541762264643835:=()
def PySem.W.Fast.tw2953703425775082158:=()
def PySem.W.Fast.tw6778941665379051825:=()
def PySem.W.Fast.tw9566294390343229226:=()
def PySem.W.Fast.tw3760941419779128215:=()
def PySem.W.Fast.tw13707774996881735173:=()
def PySem.W.Fast.tw15109322770567819706:=()
def PySem.W.Fast.tw16164136192781753634:=()
def PySem.W.Fast.tw456711652849434704:=()
def PySem.W.Fast.tw1070543039272250094:=()
local macro_rules|`(command| def $d:declId $s:optDeclSig $v:declVal)=>`(command| noncomputable def $d:declId $s:optDeclSig $v:declVal)
open PySem.W (Frag keepIn fnOf codeIn nsIn)
def Zaa:=@List.getElem?_eq_getElem
def Zab:=@PySem.wpAny_bind
def Zac:=@PySem.Heap.get?_push_of_some
def Zad:=@List.mem_append
def Zae:=@List.getElem?_map
def Zaf:=@Nat.le_refl
def Zag:=@List.getD_eq_getElem?_getD
def Zah:=@Option.some.inj
def Zai:=@List.mem_singleton
def Zaj:=@PySem.wpAny_pure
def Zak:=@if_neg
def Zal:=@if_pos
def Zam:=@PySem.Heap.get?_push_size
def Zan:=@List.Pairwise.sublist
def Zao:=@PyProof.Rows.wpS_bind
def Zap:=@List.pairwise_append
def Zaq:=@PySem.Heap.lt_size
def Zar:=@Array.getElem?_eq_getElem
def Zas:=@List.map_cons
def Zat:=@List.getElem?_eq_none
def Zau:=@List.append_assoc
def Zav:=@List.getElem?_set_ne
def Zaw:=@Nat.lt_of_lt_of_le
def Zax:=@PyProof.Rows.wpS_pure
def Zay:=@List.mem_cons
def Zaz:=@Nat.ne_of_lt
def ZaA:=@List.mem_append_right
def ZaB:=@List.getElem?_eq_some_iff
def ZaC:=@Array.length_toList
def ZaD:=@decide_eq_true
def ZaE:=@List.mem_of_getElem?
def ZaF:=@List.getElem?_append_left
def ZaG:=@List.getElem?_append_right
def ZaH:=@decide_eq_false
def ZaI:=@List.getElem?_range
def ZaJ:=@Nat.le_of_lt
def ZaK:=@Array.getElem?_toList
def ZaL:=@List.take_append_drop
def ZaM:=@List.map_append
def ZaN:=@List.length_cons
def ZaO:=@Array.getD_eq_getD_getElem?
def ZaP:=@Int.emod_lt_of_pos
def ZaQ:=@List.mem_map
def ZaR:=@List.mem_range
def ZaS:=@List.append_nil
def ZaT:=@PySem.W.mg_of
def ZaU:=@List.take_sublist
def ZaV:=@Array.toList_append
def ZaW:=@List.mem_of_mem_take
def ZaX:=@Nat.le_trans
def ZaY:=@List.drop_sublist
def ZaZ:=@Int.toNat_natCast
def Za0:=@PySem.Heap.SameBut.update
def Za1:=@Int.emod_nonneg
def Za2:=@PySem.PassesOwn.never
def Za3:=@PySem.F.slot_list_append
def Za4:=@List.mem_of_mem_drop
def Za5:=@PySem.F.plainAttrs_list
def Za6:=@PySem.W.mg_none_of
def Za7:=@List.drop_eq_getElem_cons
def Za8:=@List.getElem?_set_self
def Za9:=@List.take_of_length_le
def Zba:=@Nat.zero_le
def Zbb:=@decide_eq_true_eq
def Zbc:=@of_decide_eq_true
def Zbd:=@PyProof.Rows.wpS_mono
def Zbe:=@List.Perm.append_left
def Zbf:=@List.map_congr_left
def Zbg:=@List.nodup_cons
def Zbh:=@PyProof.Rows.wpS_forRange
def Zbi:=@PySem.Obj.data_mapFields
def Zbj:=@List.ext_getElem?
def Zbk:=@Array.toList_push
def Zbl:=@PySem.wpAny_mono
def Zbm:=@Array.perm_iff_toList_perm
def Zbn:=@List.drop_of_length_le
def Zbo:=@List.drop_zero
def Zbp:=@Nat.min_eq_left
def Zbq:=@List.getElem_mem
def Zbr:=@Nat.lt_succ_of_lt
def Zbs:=@Ne.symm
def Zbt:=@PySem.Around.under_plainId
def Zbu:=@List.pairwise_iff_getElem
def Zbv:=@PySem.Heap.get?_update_self
def Zbw:=@List.length_take
def Zbx:=@List.all_eq_true
def Zby:=@List.getElem?_replicate
def Zbz:=@List.take_take
def ZbA:=@List.mem_filter
def ZbB:=@Option.map_some
def ZbC:=@Int.toNat_of_nonneg
def ZbD:=@PySem.W.kia_one
def ZbE:=@List.filter_nil
def ZbF:=@List.not_mem_nil
def ZbG:=@Nat.lt_trans
def ZbH:=@List.map_map
def ZbI:=@congrArg
def ZbJ:=@if_false
def ZbK:=@List.find?_cons
def ZbL:=@Nat.lt_or_ge
def ZbM:=@Nat.lt_irrefl
def ZbN:=@PySem.mem_of_lookup
def ZbO:=@List.any_cons
def ZbP:=@PySem.F.plainAttrs_dict
def ZbQ:=@PySem.F.slot_dict_items
def ZbR:=@Nat.add_sub_cancel_left
def ZbS:=@Int.eq_ofNat_of_zero_le
def ZbT:=@List.filter_cons_of_pos
def ZbU:=@List.filter_cons_of_neg
def ZbV:=@List.mem_reverse
def ZbW:=@PySem.Heap.size_push
def ZbX:=@Option.map_eq_some_iff
def ZbY:=@List.Perm.append_right
def ZbZ:=@Bool.false_eq_true
def Zb0:=@List.pairwise_cons
def Zb1:=@Nat.ne_of_gt
def Zb2:=@PySem.F.called_set
def Zb3:=@if_true
set_option compiler.extract_closed false
set_option bootstrap.genMatcherCode false
set_option genSizeOf false
local macro_rules|`(tactic| omega)=>`(tactic| first|(grind only)|omega (config:={}))
local macro_rules|`(tactic| lia)=>`(tactic| first|lia -verbose|omega (config:={}))
namespace L2
open PySem PySem.Spec PyProof.Rows
noncomputable abbrev Key:=Sum Int Str
def vJ:Key->Value->Bool
 |.inl k,v=>Value.isInt k v
 |.inr x,v=>Value.isStrOf x v
def Uj(w:World):Key->Int
 |.inl k=>hashInt k
 |.inr x=>hashStr w x
theorem cC:∀ {k:Key}{v:Value},vJ k v=true->(∃ i t,k=Sum.inl i/\v=Value.int i t)\/(∃ x t,k=Sum.inr x/\v=Value.str x t)
 |.inl i,v,h=>by
  obtain⟨t,e⟩:=Value.isInt_shape (k:=i) (v:=v) h;exact .inl ⟨i,t,rfl,e⟩
 |.inr x,v,h=>by
  obtain⟨t,e⟩:=Value.isStrOf_shape (x:=x) (v:=v) h;exact .inr ⟨x,t,rfl,e⟩
theorem Gv(i:Int)(t:Tok):vJ (.inl i) (.int i t)=true:=by simp[vJ,Value.isInt]
theorem Gw(x:Str)(t:Tok):vJ (.inr x) (.str x t)=true:=by simp[vJ,Value.isStrOf]
theorem Qv(a b:Int):decide ((Sum.inl a:Key)=Sum.inl b)=(a==b):=by
 by_cases e:a=b
 ·subst e;simp
 ·have h:¬(Sum.inl a:Key)=Sum.inl b:=λq=>e (Sum.inl.inj q);rw[ZaH h];exact(beq_eq_false_iff_ne.mpr e).symm
theorem Qw(a b:Str):decide ((Sum.inr a:Key)=Sum.inr b)=decide (a=b):=by
 by_cases e:a=b
 ·subst e;simp
 ·have h:¬(Sum.inr a:Key)=Sum.inr b:=λq=>e (Sum.inr.inj q);rw[ZaH h,ZaH e]
theorem Qx(a:Int)(b:Str):decide ((Sum.inl a:Key)=Sum.inr b)=false:=ZaH (λq=>nomatch q)
theorem Qy(a:Str)(b:Int):decide ((Sum.inr a:Key)=Sum.inl b)=false:=ZaH (λq=>nomatch q)
def bx(prog:Program)(w:World):PySem.KeyKind prog w Key where
 is:=vJ
 hash:=Uj w
 inj:=λv a b ha hb=>by
  rcases cC ha with⟨i,t,rfl,rfl⟩|⟨x,t,rfl,rfl⟩
  ·rcases cC hb with⟨j,u,rfl,e⟩|⟨y,u,rfl,e⟩
   ·injection e with e1 _;rw[e1]
   ·exact nomatch e
  ·rcases cC hb with⟨j,u,rfl,e⟩|⟨y,u,rfl,e⟩
   ·exact nomatch e
   ·injection e with e1 _;rw[e1]
 byValue:=λk v h=>by
  rcases cC h with⟨i,t,rfl,rfl⟩|⟨x,t,rfl,rfl⟩<;>rfl
 pyHash:=λhv h=>by
  rcases cC hv with⟨i,t,rfl,rfl⟩|⟨x,t,rfl,rfl⟩
  ·exact wpAny_pyHash_int h
  ·exact wpAny_pyHash_str h
 eqBool:=λhu hv h=>by
  rcases cC hu with⟨i,t,rfl,rfl⟩|⟨x,t,rfl,rfl⟩
  ·rcases cC hv with⟨j,u,rfl,rfl⟩|⟨y,u,rfl,rfl⟩
   ·rw[Qv] at h;exact wpAny_eqBool_int h
   ·rw[Qx] at h;exact SeqAt.EqAt.int_str i t y u _ _ _ _ h
  ·rcases cC hv with⟨j,u,rfl,rfl⟩|⟨y,u,rfl,rfl⟩
   ·rw[Qy] at h;exact SeqAt.EqAt.str_int x t j u _ _ _ _ h
   ·rw[Qw] at h;exact wpAny_eqBool_str h
 «strs»:=λk x t v h=>by
  rcases cC h with⟨i,u,rfl,e⟩|⟨y,u,rfl,e⟩
  ·exact nomatch e
  ·injection e with e1 _
   subst e1;cases v<;>rfl
theorem yL(prog:Program)(w:World)(i:Int)(t:Tok):(bx prog w).is (.inl i) (.int i t)=true:=Gv i t
theorem yM(prog:Program)(w:World)(x:Str)(t:Tok):(bx prog w).is (.inr x) (.str x t)=true:=Gw x t
inductive V where
 |non|bl (b:Bool)|int (i:Int)|str (x:Str)|byt (b:Array UInt8)|flt (b:UInt64)|ref (a:Addr)|ty (n:String)
 deriving DecidableEq
def RelV:V->Value->Prop
 |.non,u=>u=Value.none
 |.bl b,u=>u=Value.bool b
 |.int i,u=>∃ t,u=Value.int i t
 |.str x,u=>∃ t,u=Value.str x t
 |.byt b,u=>∃ t,u=Value.bytes b t
 |.flt b,u=>∃ t,u=Value.float b t
 |.ref a,u=>u=Value.ref a
 |.ty n,u=>u=Value.type n
noncomputable abbrev Vals:List V->List Value->Prop:=Paired RelV
theorem Vals.length{xs:List V}{us:List Value}(r:Vals xs us):xs.length=us.length:=Paired.length r
theorem Vals.get:∀ {xs:List V}{us:List Value}{i:Nat}{x:V},Vals xs us->xs[i]?=some x->∃ u,us[i]?=some u/\RelV x u
 |_,_,_,_,.nil,e=>by simp at e
 |_,_,0,_,.cons r _,e=>by simp at e;subst e;exact⟨_,rfl,r⟩
 |_,_,i+1,x,.cons _ t,e=>by
  obtain⟨u,h1,h2⟩:=Vals.get (i:=i) (x:=x) t (by simpa using e)
  exact⟨u,by simpa using h1,h2⟩
theorem Vals.append:∀ {xs ys:List V}{us ws:List Value},Vals xs us->Vals ys ws->Vals (xs++ys) (us++ws)
 |_,_,_,_,.nil,s=>s
 |_,_,_,_,.cons r t,s=>.cons r (Vals.append t s)
def qQ:Option V->Option Value->Prop
 |some v,some u=>RelV v u
 |none,none=>True
 |_,_=>False
def KV{κ:Type}:List (κ×V)->List (κ×Value)->Prop:=Paired λ(p:κ×V) (q:κ×Value)=>p.1=q.1/\RelV p.2 q.2
def kV:Key->V
 |.inl i=>.int i
 |.inr x=>.str x
inductive HO where
 |lst (xs:List V)
 |tup (xs:List V)
 |dK (kvs:List (Key×V))|dT (kvs:List (List Key×V))
 |set (S:Int->Bool) (n:Nat)
 |ins (C dx:Addr) (fs:List (Str×V))
 |own (x:Addr)
 |xd (fs:List (Str×V))
 |met (f x:Addr)
 |rng (lo hi:Int)
 |frz (o:Obj) (u:HO)
 |tbl (ps:Array Value)
 |ext (φ:Heap->Prop)
noncomputable abbrev Hp:=Addr->Option HO
def upd(H:Hp)(a:Addr)(o:HO):Hp:=λb=>if b=a then some o else H b
theorem aA{H:Hp}{a:Addr}{o:HO}:upd H a o a=some o:=by unfold upd;rw[Zal rfl]
theorem aq{H:Hp}{a b:Addr}{o:HO}(h:b≠a):upd H a o b=H b:=by unfold upd;rw[Zak h]
theorem PK{H:Hp}{a b:Addr}{o u:HO}(h:H a=some o)(h':H b=some u)(d:o≠u):a≠b:=by
 intro e;subst e;rw[h] at h';exact d (Zah h')
theorem aW{H:Hp}{a b:Addr}{o:HO}(h:H a=some o)(h':H b=none):a≠b:=by
 intro e;subst e;rw[h] at h';cases h'
def fu(h:Heap)(a:Addr)(items:Array Value):Prop:=IsTup h a items/\∀ o,h.get? a=some o->o.dict=none
theorem fu.new(h:Heap)(items:Array Value):fu (h.push { cls:=.type "tuple",data:=.seq items }) h.objs.size items:=⟨IsTup.new h items,λo e=>by rw[Zam _ rfl] at e;cases e;rfl⟩
theorem fu.mk{h:Heap}{a:Addr}{items:Array Value}{n:Nat}(e:h.get? a=some { cls:=.type "tuple",data:=.seq items n }):fu h a items:=⟨⟨_,e,rfl,_,rfl⟩,λo q=>by rw[e] at q;cases q;rfl⟩
theorem fu.lt{h:Heap}{a:Addr}{items:Array Value}(x:fu h a items):a<h.objs.size:=x.1.lt
theorem fu.at'{h h':Heap}{a:Addr}{items:Array Value}(x:fu h a items)(e:∀ o,h.get? a=some o->h'.get? a=some o):fu h' a items:=by
 obtain⟨⟨o,h1,r⟩,d⟩:=x;exact⟨⟨o,e o h1,r⟩,λu q=>by rw[e o h1] at q;cases q;exact d o h1⟩
section
variable(P:Program)(w:World)
def cL(H:Hp)(h:Heap)(a:Addr):HO->Prop
 |.lst xs=>xs.length<=sizeLine/\∃ (its:List Value) (n:Nat),Vals xs its/\h.get? a=some { cls:=.type "list",data:=.seq its.toArray n }
 |.tup xs=>xs.length<=sizeLine/\∃ its:List Value,Vals xs its/\fu h a its.toArray
 |.dK kvs=>kvs.length<=sizeLine/\(a==sysModules)=false/\∃ vs,KV kvs vs/\h.DictOf (bx P w) a vs
 |.dT kvs=>kvs.length<=sizeLine/\(a==sysModules)=false/\∃ xs:List (List Key×Addr×Value),
   Paired (λ(p:List Key×V) (q:List Key×Addr×Value)=>p.1=q.1/\H q.2.1=some (.tup (p.1.map kV))/\RelV p.2 q.2.2) kvs xs /\
   ∃ o es ep,h.get? a=some o/\o.ExactDict/\o.data=.dict es ep/\es.toList=xs.map (entryOfKey (tupleKind (bx P w)))/\(xs.map (·.1)).Nodup
 |.set S n=>h.SetOf (intKind P w) a S n
 |.ins C dx fs=>H dx=some (.own a)/\fs.length<=1000/\dx≠a/\h.get? a=some (PySem.W.instObj C dx) /\
   ∃ mA,h.Ns1 dx mA/\(∀ f,qQ (fs.lookup f) (mA f))/\PySem.Within mA (fs.map (·.1))
 |.own _=>∃ o,h.get? a=some o
 |.xd fs=>∃ mA,h.Ns1 a mA/\∀ f,qQ (fs.lookup f) (mA f)
 |.rng lo hi=>∃ t u v,h.get? a=some { cls:=.type "range",data:=.fields #[.int lo t,.int hi u,.int 1 v] }
 |.frz o u=>h.get? a=some o/\cL H h a u
 |.tbl ps=>h.get? a=some { cls:=.none,data:=.fields ps }
 |.met f x=>h.get? a=some (PySem.W.methodObj (.ref f) (.ref x))
 |.ext φ=>φ h/\(∃ o,h.get? a=some o)/\∀ h1 h2:Heap,φ h1->(∀ o,h1.get? a=some o->h2.get? a=some o)->φ h2
def HOk(H:Hp)(h:Heap):Prop:=∀ a o,H a=some o->cL P w H h a o
end
section
variable{P:Program}{w:World}{H H':Hp}{h h':Heap}{a:Addr}{o:HO}
theorem cL.lt(x:cL P w H h a o):a<h.objs.size:=by
 cases o with
 |lst xs=>obtain⟨_,_,_,_,e⟩:=x;exact Zaq e
 |tup xs=>obtain⟨_,_,_,p⟩:=x;exact p.lt
 |dK kvs=>obtain⟨_,_,_,_,o,_,_,e,_⟩:=x;exact Zaq e
 |dT kvs=>obtain⟨_,_,_,_,o,_,_,e,_⟩:=x;exact Zaq e
 |set S n=>obtain⟨o,_,_,_,e,_⟩:=x;exact Zaq e
 |ins C dx fs=>obtain⟨_,_,_,e,_⟩:=x;exact Zaq e
 |own y=>obtain⟨_,e⟩:=x;exact Zaq e
 |xd fs=>obtain⟨_,⟨_,_,_,e,_⟩,_⟩:=x;exact Zaq e
 |rng lo hi=>obtain⟨_,_,_,e⟩:=x;exact Zaq e
 |frz ob u=>obtain⟨e,_⟩:=x;exact Zaq e
 |tbl ps=>exact Zaq (show h.get? a=some _ from x)
 |met f y=>exact Zaq (show h.get? a=some _ from x)
 |ext φ=>obtain⟨_,⟨_,e⟩,_⟩:=x;exact Zaq e
theorem Paired.Qz{α β:Type}{F G:α->β->Prop}:∀ {l₁:List α}{l₂:List β},Paired F l₁ l₂->(∀ a b,F a b->G a b)->Paired G l₁ l₂
 |_,_,.nil,_=>.nil
 |_,_,.cons r t,f=>.cons (f _ _ r) (Paired.Qz t f)
theorem cL.stay(x:cL P w H h a o)(k:∀ b u,(b=a\/H b=some (.own a))->h.get? b=some u->h'.get? b=some u)
  (ho:∀ b,H b=some (.own a)->H' b=some (.own a))(ht:∀ b xs,H b=some (.tup xs)->H' b=some (.tup xs)):cL P w H' h' a o:=by
 induction o with
 |lst xs=>obtain⟨z,its,n,r,e⟩:=x;exact⟨z,its,n,r,k _ _ (.inl rfl) e⟩
 |tup xs=>obtain⟨z,its,r,c⟩:=x;exact⟨z,its,r,c.at' λo e=>k _ _ (.inl rfl) e⟩
 |dK kvs=>obtain⟨z,y,vs,r,ob,es,ep,e,c⟩:=x;exact⟨z,y,vs,r,ob,es,ep,k _ _ (.inl rfl) e,c⟩
 |dT kvs=>
  obtain⟨z,y,xs,r,ob,es,ep,e,c⟩:=x;exact⟨z,y,xs,Paired.Qz r λp q z=>⟨z.1,ht _ _ z.2.1,z.2.2⟩,ob,es,ep,k _ _ (.inl rfl) e,c⟩
 |set S n=>obtain⟨ob,es,ep,t,e,c⟩:=x;exact⟨ob,es,ep,t,k _ _ (.inl rfl) e,c⟩
 |ins C dx fs=>
  obtain⟨d,z,ne,e,mA,⟨od,es,ep,e2,c⟩,r⟩:=x;exact⟨ho _ d,z,ne,k _ _ (.inl rfl) e,mA,⟨od,es,ep,k _ _ (.inr d) e2,c⟩,r⟩
 |own y=>obtain⟨ob,e⟩:=x;exact⟨ob,k _ _ (.inl rfl) e⟩
 |xd fs=>obtain⟨mA,⟨od,es,ep,e,c⟩,r⟩:=x;exact⟨mA,⟨od,es,ep,k _ _ (.inl rfl) e,c⟩,r⟩
 |rng lo hi=>obtain⟨t,u,v,e⟩:=x;exact⟨t,u,v,k _ _ (.inl rfl) e⟩
 |frz ob u ih=>obtain⟨e,q⟩:=x;exact⟨k _ _ (.inl rfl) e,ih q⟩
 |tbl ps=>
  have e:h.get? a=some { cls:=.none,data:=.fields ps }:=x;show h'.get? a=some { cls:=.none,data:=.fields ps }
  exact k a _ (.inl rfl) e
 |met f y=>
  have e:h.get? a=some (PySem.W.methodObj (.ref f) (.ref y)):=x;show h'.get? a=some (PySem.W.methodObj (.ref f) (.ref y))
  exact k a _ (.inl rfl) e
 |ext φ=>obtain⟨p,⟨o,e⟩,st⟩:=x;exact⟨st _ _ p λo q=>k _ _ (.inl rfl) q,⟨o,k _ _ (.inl rfl) e⟩,st⟩
theorem HOk.lt(x:HOk P w H h)(e:H a=some o):a<h.objs.size:=(x a o e).lt
theorem HOk.fresh(x:HOk P w H h)(e:h.objs.size<=a):H a=none:=by
 cases q:H a with
 |none=>rfl
 |some u=>exact absurd (Zaw (x.lt q) e) (ZbM _)
theorem HOk.kept(x:HOk P w H h)(k:∀ b u,h.get? b=some u->h'.get? b=some u):HOk P w H h':=λa o e=>
 (x a o e).stay (λb u _ q=>k b u q) (λ_ q=>q) λ_ _ q=>q
theorem HOk.laid(x:HOk P w H h)(k:∀ b u,h.get? b=some u->h'.get? b=some u)(hp:h.objs.size<=a)(new:cL P w (upd H a o) h' a o):HOk P w (upd H a o) h':=λb u e=>by
 have hn:=x.fresh hp;by_cases hb:b=a
 ·subst hb;rw[aA] at e;cases e;exact new
 ·rw[aq hb] at e;exact(x b u e).stay (λc v _ q=>k c v q) (λc q=>by rw[aq (aW q hn)];exact q) λc xs q=>by rw[aq (aW q hn)];exact q
end
def Rd(H:Hp)(a:Addr)(u:HO):Prop:=H a=some u\/∃ o,H a=some (.frz o u)
theorem Rd.ok{P:Program}{w:World}{H:Hp}{h:Heap}{a:Addr}{u:HO}(r:Rd H a u)(x:HOk P w H h):cL P w H h a u:=by
 rcases r with r|⟨o,r⟩
 ·exact x a u r
 ·obtain⟨_,q⟩:=x a _ r;exact q
def Mut:Option HO->Prop
 |some (.lst _)=>True
 |some (.dK _)=>True
 |some (.dT _)=>True
 |some (.set _ _)=>True
 |some (.ins _ _ _)=>True
 |some (.ext _)=>True
 |_=>False
section
variable{P:Program}{w:World}{H:Hp}{h h':Heap}{x e:Addr}{o':HO}
theorem HOk.write(ok:HOk P w H h)(mu:Mut (H x))(he:e=x\/H e=some (.own x))(k:∀ b u,b≠e->h.get? b=some u->h'.get? b=some u)(heo:∃ u,h'.get? e=some u)
  (new:cL P w (upd H x o') h' x o'):HOk P w (upd H x o') h':=λb u q=>by
 have nown:∀ c y,H c=some (.own y)->c≠x:=λc y r z=>by subst z;rw[r] at mu;exact mu
 have ntup:∀ c xs,H c=some (.tup xs)->c≠x:=λc xs r z=>by subst z;rw[r] at mu;exact mu
 by_cases hb:b=x
 ·subst hb;rw[aA] at q;cases q;exact new
 ·rw[aq hb] at q;by_cases hbe:b=e
  ·have q':H b=some (.own x):=by
    rcases he with z|z
    ·exact absurd (hbe.trans z) hb
    ·rw[hbe];exact z
   rw[q] at q';cases q';obtain⟨v,hv⟩:=heo;exact⟨v,by rw[hbe];exact hv⟩
  ·refine(ok b u q).stay (λc v hc r=>k c v ?_ r) (λc r=>by rw[aq (nown c b r)];exact r) λc xs r=>by rw[aq (ntup c xs r)];exact r
   rcases hc with rfl|hc
   ·exact hbe
   ·rintro rfl;rcases he with z|z
    ·exact nown c b hc z
    ·rw[hc] at z;cases z;exact hb rfl
end
structure Un(fs ex:List Addr)(H H':Hp)(h h':Heap):Prop where
 keep:∀ b o,h.get? b=some o->H b=none->b ∉ fs->b ∉ ex->h'.get? b=some o
 slot:∀ b o,h.get? b=some o->H b=none->b∈fs->b ∉ ex->∃ sl,h'.get? b=some { o with slots:=sl }
 free:∀ b o,h.get? b=some o->H b=none->b ∉ ex->H' b=none
 there:∀ b o,h.get? b=some o->b ∉ ex->∃ o',h'.get? b=some o'
 tups:∀ b xs,H b=some (.tup xs)->H' b=some (.tup xs)
 frzs:∀ b o u,H b=some (.frz o u)->H' b=some (.frz o u)
 tbls:∀ b ps,H b=some (.tbl ps)->∃ more,H' b=some (.tbl (ps++more))
section
variable{fs ex:List Addr}{H H1:Hp}{h h1 h':Heap}{a x e:Addr}{o:HO}
theorem Un.any(u:Un fs ex H H1 h h1){b:Addr}{ob:Obj}(q:h.get? b=some ob)(n:H b=none)(hx:b ∉ ex):∃ sl,h1.get? b=some { ob with slots:=sl }:=by
 by_cases hb:b∈fs
 ·exact u.slot b ob q n hb hx
 ·exact⟨ob.slots,u.keep b ob q n hb hx⟩
theorem Un.kept(k:∀ b u,h.get? b=some u->h'.get? b=some u):Un fs ex H H h h':=
 ⟨λb ob q _ _ _=>k b ob q,λb ob q _ _ _=>⟨ob.slots,k b ob q⟩,λ_ _ _ n _=>n,λb ob q _=>⟨ob,k b ob q⟩,λ_ _ q=>q,λ_ _ _ q=>q,λ_ ps q=>⟨#[],by rw[q];simp⟩⟩
theorem Un.refl:Un fs ex H H h h:=Un.kept λ_ _ q=>q
theorem Un.laid(k:∀ b u,h.get? b=some u->h'.get? b=some u)(hp:h.objs.size<=a)(hn:H a=none):Un fs ex H (upd H a o) h h' where
 keep:=λb u q _ _ _=>k b u q
 slot:=λb u q _ _ _=>⟨u.slots,k b u q⟩
 free:=λb u q n _=>by rw[aq (Zaz (Zaw (Zaq q) hp))];exact n
 there:=λb u q _=>⟨u,k b u q⟩
 tups:=λb xs q=>by rw[aq (aW q hn)];exact q
 frzs:=λb u xs q=>by rw[aq (aW q hn)];exact q
 tbls:=λb ps q=>⟨#[],by rw[aq (aW q hn),q];simp⟩
theorem Un.write(mu:Mut (H x))(he:e=x\/H e=some (.own x))(k:∀ b u,b≠e->h.get? b=some u->h'.get? b=some u)(heo:∃ u,h'.get? e=some u):Un fs ex H (upd H x o) h h':=by
 have hx:∀ b,H b=none->b≠x:=λb n z=>by subst z;rw[n] at mu;exact mu
 have hb:∀ b,H b=none->b≠e:=λb n z=>by
  subst z;rcases he with r|r
  ·exact hx b n r
  ·rw[n] at r;cases r
 have hm:∀ b u,H b=some u->¬Mut (some u)->b≠x:=λb u q nm z=>by subst z;rw[q] at mu;exact nm mu
 refine⟨λb u q n _ _=>k b u (hb b n) q,λb u q n _ _=>⟨u.slots,k b u (hb b n) q⟩,λb u q n _=>by rw[aq (hx b n)];exact n,λb u q _=>?_,
  λb xs q=>by rw[aq (hm b _ q λz=>z)];exact q,λb u xs q=>by rw[aq (hm b _ q λz=>z)];exact q,λb ps q=>⟨#[],by rw[aq (hm b _ q λz=>z),q];simp⟩⟩
 by_cases hbe:b=e
 ·subst hbe;exact heo
 ·exact⟨u,k b u hbe q⟩
end
def trk(h:Heap)(H:Hp):List Addr:=(List.range h.objs.size).filter λa=>(H a).isSome
def wV(h:Heap)(H:Hp):Heap:=PySem.W.hideAll h (trk h H)
theorem Gx(h:Heap)(H:Hp):(wV h H).objs.size=h.objs.size:=PySem.W.hideAll_size _ _
theorem Iv{h:Heap}{H:Hp}{b:Addr}{o:Obj}(e:h.get? b=some o)(n:H b=none):(wV h H).get? b=some o:=
 PySem.W.hideAll_get _ e λhm=>by
  have q:(H b).isSome=true:=(ZbA.mp hm).2;rw[n] at q;simp at q
theorem Mj{h:Heap}{H:Hp}{b:Addr}{o:Obj}(e:(wV h H).get? b=some o):h.get? b=some o/\H b=none:=by
 have e':h.get? b=some o:=PySem.W.of_hideAll (trk h H) e;refine⟨e',?_⟩;cases q:H b with
 |none=>rfl
 |some x=>
  have hm:b∈trk h H:=ZbA.mpr ⟨ZaR.mpr (Zaq e'),by simp[q]⟩
  have z:(wV h H).get? b=none:=PySem.W.hideAll_none (trk h H) hm;rw[z] at e;cases e
def Ml(g h:Heap)(L:Addr):List (Addr×Obj):=(List.range h.objs.size).filterMap λa=>if a=L\/(g.get? a).isSome=true then none else(h.get? a).map λo=>(a,o)
def rest(g h:Heap)(L d:Addr):List (Addr×Obj):=(Ml g h L).filter λp=>decide (p.1≠d)
structure Mod(K:Frag)(mg:Str->Option Value)(base:Heap):Prop where
 kin:K.In base
 glob:base.Ns mainGlobals mg
 blt:∃ mb,base.Ns builtinsNs mb/\∀ x:Str,x≠"__name__"->mb x=bootBuiltins x
 nolimit:base.NoLimit
structure Cx where
 prog:Program
 w:World
 K:Frag
 mg:Str->Option Value
 base:Heap
 A:Around
 N:List Str
 s₀:Shared
 H₀:Hp
 env:Env
 outer:List Env
 stack:List Env
 ex:List Addr
 fn:Str->Bool
 calm:Bool
 pn:List (Addr×Obj)
 xe:Value->Shared->Prop
def frs(l:List Env):List Addr:=l.filterMap (·.frame)
noncomputable abbrev Cx.fs(X:Cx):List Addr:=frs X.outer
def Vis(sc:Scope)(x:Str):Prop:=sc.names.lookup x=some .local\/sc.names.lookup x=some .cell\/sc.names.lookup x=some .free
def Loc(sc:Scope)(x:Str):Prop:=sc.names.lookup x=some .local\/sc.names.lookup x=some .cell
def Look(env:Env)(h:Heap)(m:Str->Option Value)(x:Str)(u:Value):Prop:=
 (env.kindOf x=some .local/\m x=some u)\/((env.kindOf x=some .cell\/env.kindOf x=some .free)/\∃ c,env.cells.lookup x=some c/\h.IsCell c (some u))
structure Cx.Ok(X:Cx):Prop where
 mod:Mod X.K X.mg X.base
 kind:X.env.scope.kind=.function
 glob:X.env.globals=mainGlobals
 blt:X.env.builtins=builtinsNs
 above:X.s₀.heap.objs.size<=X.env.locals
 inj:∀ x y c,X.env.cells.lookup x=some c->X.env.cells.lookup y=some c->x=y
 has:∀ x,(X.env.kindOf x=some .cell\/X.env.kindOf x=some .free)->∃ c,X.env.cells.lookup x=some c
 cab:∀ x c,X.fn x=true->X.env.cells.lookup x=some c->X.s₀.heap.objs.size<=c
 hd:X.calm=true->X.A.handled=none
 frames:X.A.frames=some X.stack
 stk:X.stack=X.outer\/(X.stack=X.env::X.outer/\X.env.frame=some X.env.locals)
 exf:∀ b∈X.ex,b≠X.env.locals/\∀ x c,X.env.cells.lookup x=some c->c≠b
 bs:∀ b o,X.base.get? b=some o->X.s₀.heap.get? b=some o/\X.H₀ b=none
 bsz:X.base.objs.size<=X.s₀.heap.objs.size
 noex:∀ b o,X.base.get? b=some o->b ∉ X.ex
 exfs:∀ b∈X.ex,b ∉ X.fs
 pI:X.s₀.heap.FunFrames X.base X.outer
 frf:∀ b∈X.fs,X.H₀ b=none
structure Inv(X:Cx)(pins:List (Addr×Obj))(σ:List (Option V))(H:Hp)(s:Shared):Prop where
 ok:X.Ok
 os:s.os=X.s₀.os
 bare:AllBare s.gens
 base:Un X.fs X.ex X.H₀ H X.s₀.heap s.heap
 loc:∃ m,s.heap.Ns X.env.locals m/\∀ (i:Nat) (x:Str) (v:V),X.N[i]?=some x->σ[i]?=some (some v)->Vis X.env.scope x->∃ u,RelV v u/\Look X.env s.heap m x u
 cell:∀ x c,X.env.cells.lookup x=some c->∃ v,s.heap.IsCell c v
 free:H X.env.locals=none
 freeC:∀ x c,X.env.cells.lookup x=some c->H c=none
 pin:∀ p∈X.pn++pins,s.heap.get? p.1=some p.2/\H p.1=none/\p.1≠X.env.locals/\p.1 ∉ X.fs/\∀ v,p.2.data≠.cell v
 hok:HOk X.prog X.w H s.heap
 len:σ.length=X.N.length
section
variable{X:Cx}{pins:List (Addr×Obj)}{σ:List (Option V)}{H H':Hp}{s:Shared}{h':Heap}
theorem Cx.Ok.Uk(ok:X.Ok){b:Addr}{o:Obj}(e:X.base.get? b=some o):b ∉ X.fs:=λhb=>by
 have:=(ok.pI.mem hb).1;rw[e] at this;cases this
theorem Inv.bs(I:Inv X pins σ H s):∀ b o,X.base.get? b=some o->s.heap.get? b=some o/\H b=none:=λb o e=>
 ⟨I.base.keep b o (I.ok.bs b o e).1 (I.ok.bs b o e).2 (I.ok.Uk e) (I.ok.noex b o e),I.base.free b o (I.ok.bs b o e).1 (I.ok.bs b o e).2 (I.ok.noex b o e)⟩
theorem Inv.bk(I:Inv X pins σ H s):∀ b o,X.base.get? b=some o->s.heap.get? b=some o:=λb o e=>(I.bs b o e).1
theorem Inv.mod(I:Inv X pins σ H s):Mod X.K X.mg X.base:=I.ok.mod
theorem Inv.kIn(I:Inv X pins σ H s):X.K.In s.heap:=I.ok.mod.kin.keeps I.bk
theorem Inv.lt(I:Inv X pins σ H s):X.env.locals<s.heap.objs.size:=let⟨_,hn,_⟩:=I.loc;hn.lt
theorem Inv.sz(I:Inv X pins σ H s):X.s₀.heap.objs.size<=s.heap.objs.size:=ZaX I.ok.above (ZaJ I.lt)
theorem Inv.Ul(I:Inv X pins σ H s){a:Addr}(h:s.heap.objs.size<=a):a ∉ X.fs:=λhb=>by
 obtain⟨_,o,ho,_⟩:=I.ok.pI.mem hb;exact absurd (Zaw (Zaq ho) (ZaX I.sz h)) (ZbM _)
theorem Inv.cne(I:Inv X pins σ H s):∀ x c,X.env.cells.lookup x=some c->c≠X.env.locals:=λx c e z=>by
 obtain⟨v,o,ho,hd⟩:=I.cell x c e;obtain⟨m,⟨o',es,ep,ho',hd',_⟩,_⟩:=I.loc;rw[z,ho'] at ho;cases ho;rw[hd'] at hd;cases hd
theorem Inv.pI(I:Inv X pins σ H s):s.heap.FunFrames X.base X.outer:=by
 have all:∀ (l:List Env),(∀ b∈frs l,b∈X.fs)->X.s₀.heap.FunFrames X.base l->s.heap.FunFrames X.base l:=by
  intro l;induction l with
  |nil=>intro _ _;trivial
  |cons env r ih=>
   intro hs hl;obtain⟨hk,⟨L,o,hf,hn,ho,hd⟩,hr⟩:=hl;have hL:L∈X.fs:=hs L (by unfold frs;rw[List.filterMap_cons,hf];exact List.mem_cons_self)
   obtain⟨sl,e⟩:=I.base.slot L o ho (I.ok.frf L hL) hL λz=>I.ok.exfs L z hL;exact⟨hk,⟨L,_,hf,hn,e,hd⟩,ih (λb hb=>hs b (by unfold frs;rw[List.filterMap_cons,hf];exact List.mem_cons_of_mem _ hb)) hr⟩
 exact all X.outer (λ_ hb=>hb) I.ok.pI
theorem Inv.stack(I:Inv X pins σ H s):s.heap.FunFrames X.base X.stack:=by
 rcases I.ok.stk with e|⟨e,hf⟩
 ·rw[e];exact I.pI
 ·rw[e];obtain⟨m,hn,_⟩:=I.loc;refine .cons (by rw[I.ok.kind];decide) hf hn ?_ I.pI
  exact Heap.get?_none_of_le (ZaX I.ok.bsz I.ok.above)
theorem Inv.Bm(I:Inv X pins σ H s):∀ b∈frs X.stack,b∈X.env.locals::X.fs:=λb hb=>by
 rcases I.ok.stk with e|⟨e,hf⟩
 ·rw[e] at hb;exact List.mem_cons_of_mem _ hb
 ·rw[e] at hb;unfold frs at hb;rw[List.filterMap_cons,hf] at hb;exact hb
theorem Inv.Ea(I:Inv X pins σ H s):∀ b∈frs X.stack,H b=none:=λb hb=>by
 rcases Zay.mp (I.Bm b hb) with e|hb
 ·rw[e];exact I.free
 ·obtain⟨_,o,ho,_⟩:=I.ok.pI.mem hb;exact I.base.free b o ho (I.ok.frf b hb) λz=>I.ok.exfs b z hb
theorem Inv.step{g':Array GenState}{t':Nat}{d':Drawn}{ch:List Addr}(I:Inv X pins σ H s)
  (hch:∀ b∈ch,(b∈X.ex\/X.s₀.heap.objs.size<=b)/\b≠X.env.locals/\(∀ x c,X.env.cells.lookup x=some c->c≠b)/\∀ p∈X.pn++pins,p.1≠b)
  (keep:∀ b o,b≠X.env.locals->b ∉ X.fs->b ∉ ch->s.heap.get? b=some o->H b=none->h'.get? b=some o)
  (slot:∀ b o,b≠X.env.locals->b∈X.fs->b ∉ ch->s.heap.get? b=some o->H b=none->∃ sl,h'.get? b=some { o with slots:=sl })(free:∀ b o,b ∉ ch->s.heap.get? b=some o->H b=none->H' b=none)
  (there:∀ b o,b ∉ ch->s.heap.get? b=some o->∃ o',h'.get? b=some o')
  (tups:∀ b xs,H b=some (.tup xs)->H' b=some (.tup xs))(frzs:∀ b o u,H b=some (.frz o u)->H' b=some (.frz o u))(tbls:∀ b ps,H b=some (.tbl ps)->∃ more,H' b=some (.tbl (ps++more)))
  (ns:∀ m,s.heap.Ns X.env.locals m->h'.Ns X.env.locals m)(hok:HOk X.prog X.w H' h')(hg:AllBare g') :
  Inv X pins σ H' { s with heap:=h',gens:=g',drawn:=d',toks:=t' }:=by
 have neL:∀ b o,X.s₀.heap.get? b=some o->b≠X.env.locals:=λb o e=>Zaz (Zaw (Zaq e) I.ok.above);have neC:∀ b o,X.s₀.heap.get? b=some o->b ∉ X.ex->b ∉ ch:=λb o e hx hb=>by
  rcases(hch b hb).1 with z|z
  ·exact hx z
  ·exact absurd (Zaw (Zaq e) z) (ZbM _)
 have cellK:∀ x c,X.env.cells.lookup x=some c->∀ v,s.heap.IsCell c v->h'.IsCell c v:=λx c e v ⟨o,ho,hd⟩=>by
  have nch:c ∉ ch:=λz=>(hch c z).2.2.1 x c e rfl;by_cases hc:c∈X.fs
  ·obtain⟨sl,q⟩:=slot c o (I.cne x c e) hc nch ho (I.freeC x c e);exact⟨_,q,hd⟩
  ·exact⟨o,keep c o (I.cne x c e) hc nch ho (I.freeC x c e),hd⟩
 refine⟨I.ok,I.os,hg,⟨λb o e n hb hx=>?_,λb o e n hb hx=>?_,λb o e n hx=>?_,λb o e hx=>?_,λb xs e=>tups b xs (I.base.tups b xs e),λb o xs e=>frzs b o xs (I.base.frzs b o xs e),λb ps e=>?_⟩,?_,λx c e=>?_,?_,λx c e=>?_,λp hp=>?_,hok,I.len⟩
 ·exact keep b o (neL b o e) hb (neC b o e hx) (I.base.keep b o e n hb hx) (I.base.free b o e n hx)
 ·obtain⟨sl,e1⟩:=I.base.slot b o e n hb hx;obtain⟨sl',e2⟩:=slot b _ (neL b o e) hb (neC b o e hx) e1 (I.base.free b o e n hx);exact⟨sl',e2⟩
 ·obtain⟨o',e1⟩:=I.base.there b o e hx;exact free b o' (neC b o e hx) e1 (I.base.free b o e n hx)
 ·obtain⟨o',e1⟩:=I.base.there b o e hx;exact there b o' (neC b o e hx) e1
 ·obtain⟨m1,e1⟩:=I.base.tbls b ps e;obtain⟨m2,e2⟩:=tbls b _ e1;exact⟨m1++m2,by rw[e2,Array.append_assoc]⟩
 ·obtain⟨m,hn,hl⟩:=I.loc;refine⟨m,ns m hn,λi x v e1 e2 e3=>?_⟩;obtain⟨u,r,l⟩:=hl i x v e1 e2 e3;refine⟨u,r,?_⟩;rcases l with l|⟨k,c,e,z⟩
  ·exact .inl l
  ·exact .inr ⟨k,c,e,cellK x c e _ z⟩
 ·obtain⟨v,z⟩:=I.cell x c e;exact⟨v,cellK x c e v z⟩
 ·obtain⟨m,⟨o,_,_,ho,_⟩,_⟩:=I.loc;exact free _ o (λz=>(hch _ z).2.1 rfl) ho I.free
 ·obtain⟨v,o,ho,hd⟩:=I.cell x c e;exact free c o (λz=>(hch c z).2.2.1 x c e rfl) ho (I.freeC x c e)
 ·obtain⟨e,n,ne,nf,d⟩:=I.pin p hp;have nch:p.1 ∉ ch:=λz=>(hch p.1 z).2.2.2 p hp rfl;exact⟨keep p.1 p.2 ne nf nch e n,free p.1 p.2 nch e n,ne,nf,d⟩
theorem Inv.un{t':Nat}(I:Inv X pins σ H s)(u:Un X.fs [] H H' s.heap h')(hok:HOk X.prog X.w H' h'):Inv X pins σ H' { s with heap:=h',toks:=t' }:=by
 obtain⟨m,⟨o,es,ep,ho,r⟩,_⟩:=id I.loc;obtain⟨sl,hL⟩:=u.any ho I.free (by simp)
 exact I.step (g':=s.gens) (d':=s.drawn) (ch:=[]) (λ_ z=>nomatch z) (λb o _ hb _ e n=>u.keep b o e n hb (by simp)) (λb o _ hb _ e n=>u.slot b o e n hb (by simp)) (λb o _ e n=>u.free b o e n (by simp)) (λb o _ e=>u.there b o e (by simp)) u.tups u.frzs u.tbls (λm' hm=>by
  obtain⟨o',es',ep',ho',r'⟩:=hm;rw[ho] at ho';cases ho';exact⟨_,es',ep',hL,r'⟩) hok I.bare
theorem Inv.call{g':Array GenState}{t':Nat}{d':Drawn}{ch:List Addr}(I:Inv X pins σ H s)(u:Un (frs X.stack) ch H H' s.heap h')(hok:HOk X.prog X.w H' h')(hg:AllBare g')
  (hch:∀ b∈ch,(b∈X.ex\/X.s₀.heap.objs.size<=b)/\b≠X.env.locals/\(∀ x c,X.env.cells.lookup x=some c->c≠b)/\∀ p∈X.pn++pins,p.1≠b) :
  Inv X pins σ H' { s with heap:=h',gens:=g',drawn:=d',toks:=t' }:=by
 obtain⟨m,⟨o,es,ep,ho,r⟩,_⟩:=id I.loc;obtain⟨sl,hL⟩:=u.any ho I.free λz=>(hch _ z).2.1 rfl;exact I.step (ch:=ch) hch (λb o hL hb hc e n=>u.keep b o e n (λz=>(Zay.mp (I.Bm b z)).elim hL hb) hc) (λb o _ _ hc e n=>u.any e n hc) (λb o hc e n=>u.free b o e n hc) (λb o hc e=>u.there b o e hc) u.tups u.frzs u.tbls (λm' hm=>by
  obtain⟨o',es',ep',ho',r'⟩:=hm;rw[ho] at ho';cases ho';exact⟨_,es',ep',hL,r'⟩) hok hg
theorem Inv.turned{t':Nat}{it:Addr}(I:Inv X pins σ H s)(k:∀ b o,b≠it->s.heap.get? b=some o->h'.get? b=some o)(hn:H it=none)(hL:it≠X.env.locals)
  (h1:it∈X.ex\/X.s₀.heap.objs.size<=it)(h2:∀ x c,X.env.cells.lookup x=some c->c≠it)(h3:∀ p∈X.pn++pins,p.1≠it):Inv X pins σ H { s with heap:=h',toks:=t' }:=by
 have nit:∀ b u,H b=some u->b≠it:=λb u e z=>by rw[z,hn] at e;cases e
 refine I.step (g':=s.gens) (d':=s.drawn) (ch:=[it]) (λb hb=>?_) (λb o _ _ hc e _=>k b o (λz=>hc (by simp[z])) e) (λb o _ _ hc e _=>⟨o.slots,k b o (λz=>hc (by simp[z])) e⟩) (λ_ _ _ _ n=>n)
  (λb o hc e=>⟨o,k b o (λz=>hc (by simp[z])) e⟩) (λ_ _ e=>e) (λ_ _ _ e=>e) (λb ps e=>⟨#[],by rw[e];simp⟩) (λm hm=>?_) (λb u e=>?_) I.bare
 ·have e:b=it:=by simpa using hb
  subst e;exact⟨h1,hL,h2,h3⟩
 ·obtain⟨o,es,ep,ho,r⟩:=hm;exact⟨o,es,ep,k _ o (Zbs hL) ho,r⟩
 ·refine(I.hok b u e).stay (λc v hc q=>k c v ?_ q) (λ_ q=>q) λ_ _ q=>q;rcases hc with z|z
  ·rw[z];exact nit b u e
  ·exact nit c _ z
theorem Inv.tok(I:Inv X pins σ H s)(t:Nat):Inv X pins σ H { s with toks:=t }:=I.un (h':=s.heap) (t':=t) Un.refl I.hok
theorem Inv.kept{t':Nat}(I:Inv X pins σ H s)(k:∀ b u,s.heap.get? b=some u->h'.get? b=some u):Inv X pins σ H { s with heap:=h',toks:=t' }:=I.un (Un.kept k) (I.hok.kept k)
theorem Inv.laid{a:Addr}{o:HO}{t':Nat}(I:Inv X pins σ H s)(k:∀ b u,s.heap.get? b=some u->h'.get? b=some u)(hp:s.heap.objs.size<=a)(new:cL X.prog X.w (upd H a o) h' a o) :
  Inv X pins σ (upd H a o) { s with heap:=h',toks:=t' }:=I.un (Un.laid k hp (I.hok.fresh hp)) (I.hok.laid k hp new)
theorem Inv.write{x e:Addr}{o:HO}{t':Nat}(I:Inv X pins σ H s)(mu:Mut (H x))(he:e=x\/H e=some (.own x))(k:∀ b u,b≠e->s.heap.get? b=some u->h'.get? b=some u)(heo:∃ u,h'.get? e=some u)
  (new:cL X.prog X.w (upd H x o) h' x o):Inv X pins σ (upd H x o) { s with heap:=h',toks:=t' }:=I.un (Un.write mu he k heo) (I.hok.write mu he k heo new)
theorem Inv.wW{pins':List (Addr×Obj)}(I:Inv X pins σ H s)(h:∀ p∈pins',s.heap.get? p.1=some p.2/\H p.1=none/\p.1≠X.env.locals/\p.1 ∉ X.fs/\∀ v,p.2.data≠.cell v):Inv X pins' σ H s:=
 ⟨I.ok,I.os,I.bare,I.base,I.loc,I.cell,I.free,I.freeC,λp hp=>(Zad.mp hp).elim (λz=>I.pin p (List.mem_append_left _ z)) (h p),I.hok,I.len⟩
theorem yN{N:List Str}(hN:N.Nodup){i j:Nat}{x:Str}(a:N[i]?=some x)(b:N[j]?=some x):i=j:=by
 obtain⟨h1,e1⟩:=ZaB.mp a;obtain⟨h2,e2⟩:=ZaB.mp b;exact(List.getElem_inj hN).mp (e1.trans e2.symm)
theorem vK{M:Model}{A:Around}{E:Value->Shared->Prop}{i:Nat}{x:Str}{v:V}{u:Value}{Q:Unit->Shared->Prop}(I:Inv X pins σ H s)(hN:X.N.Nodup)(hi:X.N[i]?=some x)(hx:Loc X.env.scope x)(r:RelV v u)
  (h:∀ s',Inv X pins (σ.set i (some v)) H s'->(∃ a,Heap.SameBut a s.heap s'.heap/\(a=X.env.locals\/X.env.cells.lookup x=some a))->Q () s')(hf:X.fn x=true\/X.env.scope.names.lookup x=some .local:=by first|exact .inl rfl|exact .inr rfl|assumption):wpAny M A (storeName X.env x u) Q E s:=by
 obtain⟨m,hn,hl⟩:=id I.loc;have hcls:(X.env.scope.kind==.class||(X.env.scope.kind==.module&&X.env.locals != X.env.globals))=false:=by rw[I.ok.kind];rfl
 have hiσ:i<σ.length:=by rw[I.len];exact(ZaB.mp hi).1
 have cne:=I.cne;have tracked:∀ {a:Addr}{h':Heap},(∃ o,s.heap.get? a=some o/\H a=none)->Heap.SameBut a s.heap h'->HOk X.prog X.w H h':=λ{a h'} ha hs b ob e=>by
  obtain⟨_,_,hfree⟩:=ha;refine(I.hok b ob e).stay (λc w' hc q=>(hs.2 c ?_).trans q) (λ_ q=>q) λ_ _ q=>q;rintro rfl;rcases hc with rfl|hc
  ·rw[hfree] at e;cases e
  ·rw[hfree] at hc;cases hc
 rcases hx with hk|hk
 ·refine wpAny_storeName_local hk hn (λh' hn' hs=>?_) hcls;obtain⟨oL,_,_,hoL,_⟩:=id hn;refine h _ ⟨I.ok,I.os,I.bare,⟨λb o e n hb hx=>?_,λb o e n hb hx=>?_,I.base.free,λb o e hx=>?_,I.base.tups,I.base.frzs,I.base.tbls⟩,⟨_,hn',λj y v' e1 e2 e3=>?_⟩,λy c e=>?_,I.free,I.freeC,λp hp=>?_,tracked ⟨oL,hoL,I.free⟩ hs,by simpa using I.len⟩ ⟨_,hs,.inl rfl⟩
  ·exact(hs.2 b (Zaz (Zaw (Zaq e) I.ok.above))).trans (I.base.keep b o e n hb hx)
  ·obtain⟨sl,e1⟩:=I.base.slot b o e n hb hx;exact⟨sl,(hs.2 b (Zaz (Zaw (Zaq e) I.ok.above))).trans e1⟩
  ·obtain⟨o',e1⟩:=I.base.there b o e hx;exact⟨o',(hs.2 b (Zaz (Zaw (Zaq e) I.ok.above))).trans e1⟩
  ·by_cases hj:j=i
   ·subst hj;rw[hi] at e1;cases e1;rw[Za8 hiσ] at e2;cases e2;exact⟨u,r,.inl ⟨hk,by simp⟩⟩
   ·rw[Zav (Zbs hj)] at e2;obtain⟨u',r',q⟩:=hl j y v' e1 e2 e3;refine⟨u',r',?_⟩;rcases q with⟨k,e⟩|⟨k,c,e,z⟩
    ·refine .inl ⟨k,?_⟩;have:y≠x:=λe=>hj (yN hN e1 (e▸hi));simp[this,e]
    ·exact .inr ⟨k,c,e,z.sameBut hs (cne y c e)⟩
  ·obtain⟨w',z⟩:=I.cell y c e;exact⟨w',z.sameBut hs (cne y c e)⟩
  ·obtain⟨e,n,ne,nf,d⟩:=I.pin p hp;exact⟨(hs.2 p.1 ne).trans e,n,ne,nf,d⟩
 ·have hfn:X.fn x=true:=by
   rcases hf with z|z
   ·exact z
   ·rw[z] at hk;cases hk
  obtain⟨c,hc⟩:=I.ok.has x (.inl hk);obtain⟨w',z⟩:=I.cell x c hc;refine wpAny_storeName_cell I.ok.kind hk hc z (λh' hc' hs=>?_);obtain⟨oc,hoc,hocd⟩:=id z;refine h { s with heap:=h' } ⟨I.ok,I.os,I.bare,⟨λb o e n hb hx=>?_,λb o e n hb hx=>?_,I.base.free,λb o e hx=>?_,I.base.tups,I.base.frzs,I.base.tbls⟩,⟨m,hn.sameBut hs (Zbs (cne x c hc)),λj y v' e1 e2 e3=>?_⟩,λy c' e=>?_,I.free,I.freeC,λp hp=>?_,tracked ⟨oc,hoc,I.freeC x c hc⟩ hs,by simpa using I.len⟩ ⟨c,hs,.inr hc⟩
  ·exact(hs.2 b (Zaz (Zaw (Zaq e) (I.ok.cab x c hfn hc)))).trans (I.base.keep b o e n hb hx)
  ·obtain⟨sl,e1⟩:=I.base.slot b o e n hb hx;exact⟨sl,(hs.2 b (Zaz (Zaw (Zaq e) (I.ok.cab x c hfn hc)))).trans e1⟩
  ·obtain⟨o',e1⟩:=I.base.there b o e hx;exact⟨o',(hs.2 b (Zaz (Zaw (Zaq e) (I.ok.cab x c hfn hc)))).trans e1⟩
  ·by_cases hj:j=i
   ·subst hj;rw[hi] at e1;cases e1;rw[Za8 hiσ] at e2;cases e2;exact⟨u,r,.inr ⟨.inl hk,c,hc,hc'⟩⟩
   ·rw[Zav (Zbs hj)] at e2;obtain⟨u',r',q⟩:=hl j y v' e1 e2 e3;refine⟨u',r',?_⟩;rcases q with q|⟨k,c',e,z'⟩
    ·exact .inl q
    ·refine .inr ⟨k,c',e,z'.sameBut hs ?_⟩;rintro rfl;exact hj (yN hN e1 (I.ok.inj _ _ _ e hc▸hi))
  ·by_cases hcc:c'=c
   ·subst hcc;exact⟨_,hc'⟩
   ·obtain⟨w2,z2⟩:=I.cell y c' e;exact⟨w2,z2.sameBut hs hcc⟩
  ·obtain⟨e,n,ne,nf,d⟩:=I.pin p hp;refine⟨(hs.2 p.1 ?_).trans e,n,ne,nf,d⟩;intro q;rw[q,hoc] at e;have q':oc=p.2:=Zah e;exact d w' (by rw[<-q'];exact hocd)
theorem yO{M:Model}{A:Around}{E:Value->Shared->Prop}{i:Nat}{x:Str}{v:V}{u:Value}{Q:Unit->Shared->Prop}(I:Inv X pins σ H s)(hN:X.N.Nodup)(hi:X.N[i]?=some x)(hx:Loc X.env.scope x)(r:RelV v u)
  (h:∀ s',Inv X pins (σ.set i (some v)) H s'->Q () s')(hf:X.fn x=true\/X.env.scope.names.lookup x=some .local:=by first|exact .inl rfl|exact .inr rfl|assumption):wpAny M A (storeName X.env x u) Q E s:=
 vK I hN hi hx r (λs' I' _=>h s' I') hf
theorem Inv.call'{s':Shared}{ch:List Addr}(I:Inv X pins σ H s)(ho:s'.os=s.os)(u:Un (frs X.stack) ch H H' s.heap s'.heap)(hok:HOk X.prog X.w H' s'.heap)(hg:AllBare s'.gens)
  (hch:∀ b∈ch,(b∈X.ex\/X.s₀.heap.objs.size<=b)/\b≠X.env.locals/\(∀ x c,X.env.cells.lookup x=some c->c≠b)/\∀ p∈X.pn++pins,p.1≠b):Inv X pins σ H' s':=by
 obtain⟨h',g',d',t',o'⟩:=s';have e:o'=s.os:=ho;subst e;exact I.call (g':=g') (t':=t') (d':=d') u hok hg hch
end
noncomputable abbrev XK:=Value->Option Addr->Hp->Prop
noncomputable abbrev St:=List (Option V)
noncomputable abbrev VK:=V->Hp->Prop
noncomputable abbrev TE:=St->Hp->VK->Prop
noncomputable abbrev TT:=St->Hp->(Bool->Hp->Prop)->Prop
noncomputable abbrev TA:=St->Hp->(List V->Hp->Prop)->Prop
structure Ends where
 nx:St->Hp->Prop
 rt:VK
 bk:St->Hp->Prop:=λ_ _=>False
 ct:St->Hp->Prop:=λ_ _=>False
noncomputable abbrev TS:=Ends->St->Hp->Prop
def EP(X:Cx)(pins:List (Addr×Obj))(σ:St)(Q:VK)(u:Value)(s':Shared):Prop:=∃ v H',Inv X pins σ H' s'/\RelV v u/\Q v H'
def TP(X:Cx)(pins:List (Addr×Obj))(σ:St)(Q:Bool->Hp->Prop)(b:Bool)(s':Shared):Prop:=∃ H',Inv X pins σ H' s'/\Q b H'
def AP(X:Cx)(pins:List (Addr×Obj))(σ:St)(Q:List V->Hp->Prop)(us:List Value)(s':Shared):Prop:=∃ vs H',Inv X pins σ H' s'/\Vals vs us/\Q vs H'
def SP(X:Cx)(pins:List (Addr×Obj))(D:Ends)(f:Flow)(s':Shared):Prop:=
 match f with
 |.next=>∃ σ' H',Inv X pins σ' H' s'/\D.nx σ' H'
 |.brk=>∃ σ' H',Inv X pins σ' H' s'/\D.bk σ' H'
 |.cont=>∃ σ' H',Inv X pins σ' H' s'/\D.ct σ' H'
 |.ret u=>∃ v σ' H',Inv X pins σ' H' s'/\RelV v u/\D.rt v H'
def PE(X:Cx)(e:Expr)(t:TE):Prop:=
 ∀ (pins:List (Addr×Obj)) (s:Shared) (σ:St) (H:Hp) (Q:VK),Inv X pins σ H s->t σ H Q->wpAny (model X.prog X.w) X.A (eval e X.env) (EP X pins σ Q) X.xe s
def PT(X:Cx)(e:Expr)(t:TT):Prop:=
 ∀ (pins:List (Addr×Obj)) (s:Shared) (σ:St) (H:Hp) (Q:Bool->Hp->Prop),Inv X pins σ H s->t σ H Q->wpAny (model X.prog X.w) X.A (isTrue e X.env (eval e X.env)) (TP X pins σ Q) X.xe s
def PW(X:Cx)(e:Expr)(t:TT):Prop:=
 ∀ (whole:Sem Value) (pins:List (Addr×Obj)) (s:Shared) (σ:St) (H:Hp) (Q:Bool->Hp->Prop),Inv X pins σ H s->t σ H Q->wpAny (model X.prog X.w) X.A (isTrue e X.env whole) (TP X pins σ Q) X.xe s
theorem PW.pt{X:Cx}{e:Expr}{t:TT}(h:PW X e t):PT X e t:=h _
def PA(X:Cx)(es:List Expr)(t:TA):Prop:=
 ∀ (pos:Pos) (pins:List (Addr×Obj)) (s:Shared) (σ:St) (H:Hp) (Q:List V->Hp->Prop),Inv X pins σ H s->t σ H Q->wpAny (model X.prog X.w) X.A (spliced (backTo pos (starEach es X.env))) (AP X pins σ Q) X.xe s
def PS(X:Cx)(st:Stmt)(t:TS):Prop:=
 ∀ (pins:List (Addr×Obj)) (s:Shared) (σ:St) (H:Hp) (D:Ends),Inv X pins σ H s->t D σ H->wpAny (model X.prog X.w) X.A (exec st X.env) (SP X pins D) X.xe s
def PSs(X:Cx)(st:List Stmt)(t:TS):Prop:=
 ∀ (pins:List (Addr×Obj)) (s:Shared) (σ:St) (H:Hp) (D:Ends),Inv X pins σ H s->t D σ H->wpAny (model X.prog X.w) X.A (execs st X.env) (SP X pins D) X.xe s
theorem thn{α:Type}{t:Sem α}{Q Q':α->Shared->Prop}{M:Model}{A:Around}{E:Value->Shared->Prop}{s:Shared}(h:wpAny M A t Q E s)(hQ:∀ a s,Q a s->Q' a s):wpAny M A t Q' E s:=Zbl h hQ λ_ _ x=>x
section
variable{X:Cx}
def pJ(i:Nat):TE:=λσ H Q=>∃ v,σ[i]?=some (some v)/\Q v H
def tC(v:V):TE:=λ_ H Q=>Q v H
theorem Bo{i:Nat}{x:Str}{pos:Pos}(hN:X.N[i]?=some x)(hv:Vis X.env.scope x)(hd:(x==("__debug__":Str))=false:=by decide)(hcd:(x==("__classdict__":Str))=false:=by decide):PE X (.Name x pos) (pJ i):=by
 intro pins s σ H Q I h;obtain⟨v,e,h⟩:=h;obtain⟨m,hn,hl⟩:=I.loc;obtain⟨u,r,l⟩:=hl i x v hN e hv;have fin:EP X pins σ Q u s:=⟨v,H,I,r,h⟩;rcases l with⟨hk,hm⟩|⟨hk,c,hc,hcell⟩
 ·exact wpAny_Name (wpAny_loadName_local I.ok.kind hk hn hm fin) hd
 ·rcases hk with hk|hk
  ·exact wpAny_Name (wpAny_loadName_cell I.ok.kind hk hc hcell fin) hd
  ·exact wpAny_Name (wpAny_loadName_free I.ok.kind hk hc hcell fin hcd) hd
theorem aG{i j pos}:PE X (.Constant (.int i) j pos) (tC (.int i)):=λ_ _ _ H _ I h=>wpAny_Constant_int ⟨.int i,H,I.tok _,⟨_,rfl⟩,h⟩
theorem Eb{b j pos}:PE X (.Constant (.bool b) j pos) (tC (.bl b)):=λ_ _ _ H _ I h=>Constant_bool ⟨.bl b,H,I,rfl,h⟩
theorem qR{x j pos}:PE X (.Constant (.str x) j pos) (tC (.str x)):=λ_ _ _ H _ I h=>Calls.Constant_str ⟨.str x,H,I.tok _,⟨_,rfl⟩,h⟩
def Gl(X:Cx)(x:Str):Prop:=X.env.kindOf x=some .globalImplicit
theorem Ec{E:Value->Shared->Prop}{pins:List (Addr×Obj)}{s:Shared}{σ:St}{H:Hp}{x:Str}{u:Value}{pos:Pos}{Q:Value->Shared->Prop}(I:Inv X pins σ H s)(hg:Gl X x)(hm:X.mg x=some u)(h:Q u s)
  (hd:(x==("__debug__":Str))=false:=by decide):wpAny (model X.prog X.w) X.A (eval (.Name x pos) X.env) Q E s:=
 Calls.Name_function_global I.ok.kind hg (Calls.loadGlobal_global (by rw[I.ok.glob];exact I.mod.glob.keeps I.bk) hm h) hd
theorem qT{E:Value->Shared->Prop}{pins:List (Addr×Obj)}{s:Shared}{σ:St}{H:Hp}{x:Str}{u:Value}{pos:Pos}{Q:Value->Shared->Prop}(I:Inv X pins σ H s)(hg:Gl X x)(hm:X.mg x=none)(hv:bootBuiltins x=some u)(h:Q u s)
  (hn:x≠"__name__":=by decide)(hd:(x==("__debug__":Str))=false:=by decide):wpAny (model X.prog X.w) X.A (eval (.Name x pos) X.env) Q E s:=by
 obtain⟨mb,h1,h2⟩:=I.mod.blt;exact Calls.Name_function_global I.ok.kind hg (Calls.loadGlobal_builtin (by rw[I.ok.glob];exact I.mod.glob.keeps I.bk) hm (by rw[I.ok.blt];exact h1.keeps I.bk) ((h2 x hn).trans hv) h) hd
theorem Mm{x:Str}{v:V}{u:Value}{pos:Pos}(hg:Gl X x)(hm:X.mg x=none)(hv:bootBuiltins x=some u)(r:RelV v u)(hn:x≠"__name__":=by decide)(hd:(x==("__debug__":Str))=false:=by decide):PE X (.Name x pos) (tC v):=
 λ_ _ _ H _ I h=>qT I hg hm hv ⟨v,H,I,r,h⟩ hn hd
variable{a b:Expr}{pos:Pos}
def tB(t:TE):TT:=λσ H Q=>t σ H λx H1=>∃ c,x=.bl c/\Q c H1
theorem tW{e:Expr}{t:TE}(h:PE X e t)(he:∀ whole,isTrue e X.env whole=(do let v <-whole;standAt e.pos;holding [v] (truthy v)):=by intro _;rfl):PT X e (tB t):=by
 intro pins s σ H Q I hw;refine isTrue_plain (thn (h pins s σ H _ I hw) ?_) (he _);rintro v s1 ⟨x,H1,I1,r1,q1⟩;obtain⟨d,rfl,q⟩:=q1;cases r1;exact wpAny_truthy_bool ⟨H1,I1,q⟩
variable{tA tB':TT}{rest:List Expr}
def Sd(t u:TT):TT:=λσ H Q=>t σ H λc H1=>if c=true then u σ H1 Q else Q false H1
def tOr(t u:TT):TT:=λσ H Q=>t σ H λc H1=>if c=true then Q true H1 else u σ H1 Q
def Sg(t:TT):TT:=λσ H Q=>t σ H λc H1=>Q (!c) H1
theorem Mp(ha:PT X a tA):PW X (.BoolOp .And [a] pos) tA:=by
 intro wh pins s σ H Q I h;refine isTrue_and (thn (ha pins s σ H Q I h) λc s1 e=>?_);cases c with
 |true=>exact isTrue_and_nil e
 |false=>exact e
theorem Bp(ha:PT X a tA):PW X (.BoolOp .Or [a] pos) tA:=by
 intro wh pins s σ H Q I h;refine isTrue_or (thn (ha pins s σ H Q I h) λc s1 e=>?_);cases c with
 |false=>exact isTrue_or_nil e
 |true=>exact e
theorem QB(ha:PT X a tA)(hb:PW X (.BoolOp .And (b::rest) pos) tB'):PW X (.BoolOp .And (a::b::rest) pos) (Sd tA tB'):=by
 intro wh pins s σ H Q I h;refine isTrue_and (thn (ha pins s σ H _ I h) ?_);rintro c s1 ⟨H1,I1,q1⟩;cases c with
 |true=>exact hb wh pins s1 σ H1 Q I1 q1
 |false=>exact⟨H1,I1,q1⟩
theorem Iw(ha:PT X a tA)(hb:PW X (.BoolOp .Or (b::rest) pos) tB'):PW X (.BoolOp .Or (a::b::rest) pos) (tOr tA tB'):=by
 intro wh pins s σ H Q I h;refine isTrue_or (thn (ha pins s σ H _ I h) ?_);rintro c s1 ⟨H1,I1,q1⟩;cases c with
 |true=>exact⟨H1,I1,q1⟩
 |false=>exact hb wh pins s1 σ H1 Q I1 q1
theorem wX(ha:PT X a tA):PT X (.UnaryOp .Not a pos) (Sg tA):=by
 intro pins s σ H Q I h;exact isTrue_not (ha pins s σ H (λc H1=>Q (!c) H1) I h)
end
def SqL(K:Frag)(H:Hp)(a:Addr)(xs:List V):Prop:=
 Rd H a (.lst xs) \/
  ∃ (o:Obj) (its:Array Value) (n:Nat),K.lookup a=some o/\o.cls=.type "list"/\o.dict=none/\o.data=.seq its n/\its.size<=sizeLine/\Vals xs its.toList
def SqT(K:Frag)(H:Hp)(a:Addr)(xs:List V):Prop:=
 Rd H a (.tup xs) \/
  ∃ (o:Obj) (its:Array Value) (n:Nat),K.lookup a=some o/\o.cls=.type "tuple"/\o.data=.seq its n/\its.size<=sizeLine/\Vals xs its.toList
def Um:Value->Option V
 |.none=>some .non
 |.bool b=>some (.bl b)
 |.int i _=>some (.int i)
 |.str x _=>some (.str x)
 |.bytes b _=>some (.byt b)
 |.float b _=>some (.flt b)
 |.ref a=>some (.ref a)
 |.type n=>some (.ty n)
 |_=>none
theorem RelV.abs{x:V}{u:Value}(r:RelV x u):Um u=some x:=by
 cases x with
 |non=>cases r;rfl
 |bl _=>cases r;rfl
 |int _=>obtain⟨t,rfl⟩:=r;rfl
 |str _=>obtain⟨t,rfl⟩:=r;rfl
 |byt _=>obtain⟨t,rfl⟩:=r;rfl
 |flt _=>obtain⟨t,rfl⟩:=r;rfl
 |ref _=>cases r;rfl
 |ty _=>cases r;rfl
theorem RelV.inj{x y:V}{u:Value}(r:RelV x u)(q:RelV y u):x=y:=Zah (r.abs.symm.trans q.abs)
theorem Vals.inj:∀ {xs ys:List V}{us:List Value},Vals xs us->Vals ys us->xs=ys
 |_,_,_,.nil,.nil=>rfl
 |_,_,_,.cons r t,.cons r' t'=>by rw[r.inj r',Vals.inj t t']
section
variable{X:Cx}{pins:List (Addr×Obj)}{σ:St}{H:Hp}{s:Shared}{a:Addr}{xs ys:List V}
theorem SqL.of{K:Frag}(h:H a=some (.lst xs)):SqL K H a xs:=.inl (.inl h)
theorem SqT.of{K:Frag}(h:H a=some (.tup xs)):SqT K H a xs:=.inl (.inl h)
theorem Inv.list(I:Inv X pins σ H s)(h:SqL X.K H a xs):∃ its:List Value,Vals xs its/\PlainL s.heap a its.toArray/\xs.length<=sizeLine:=by
 rcases h with h|⟨o,its,n,hk,hc,hd,hs,hz,r⟩
 ·obtain⟨z,its,n,r,e⟩:=h.ok I.hok;exact⟨its,r,⟨_,n,e,rfl,rfl,rfl⟩,z⟩
 ·refine⟨its.toList,r,⟨o,n,I.kIn a o hk,hc,hd,by simpa using hs⟩,?_⟩
  have e:=r.length;simp only[ZaC] at e;lia
theorem Inv.tuple(I:Inv X pins σ H s)(h:SqT X.K H a xs):∃ its:List Value,Vals xs its/\IsTup s.heap a its.toArray/\xs.length<=sizeLine:=by
 rcases h with h|⟨o,its,n,hk,hc,hs,hz,r⟩
 ·obtain⟨z,its,r,p⟩:=h.ok I.hok;exact⟨its,r,p.1,z⟩
 ·refine⟨its.toList,r,⟨o,I.kIn a o hk,hc,n,by simpa using hs⟩,?_⟩
  have e:=r.length;simp only[ZaC] at e;omega
theorem Inv.tX(I:Inv X pins σ H s)(h:SqL X.K H a xs)(h':SqL X.K H a ys):xs=ys:=by
 obtain⟨its,r,⟨o,n,e,_,_,d⟩,_⟩:=I.list h;obtain⟨its',r',⟨o',n',e',_,_,d'⟩,_⟩:=I.list h';rw[e] at e';cases e';rw[d] at d';injection d' with d1 _
 have:its=its':=by simpa using ZbI Array.toList d1
 subst this;exact r.inj r'
theorem Inv.vL(I:Inv X pins σ H s)(h:SqT X.K H a xs)(h':SqT X.K H a ys):xs=ys:=by
 obtain⟨its,r,⟨o,e,_,n,d⟩,_⟩:=I.tuple h;obtain⟨its',r',⟨o',e',_,n',d'⟩,_⟩:=I.tuple h';rw[e] at e';cases e';rw[d] at d';injection d' with d1 _
 have:its=its':=by simpa using ZbI Array.toList d1
 subst this;exact r.inj r'
end
noncomputable abbrev Cx.wish(X:Cx)(E:Value->Shared->Prop):Cx:={ X with xe:=E }
noncomputable abbrev Cx.nox(X:Cx):Cx:=X.wish λ_ _=>False
theorem Cx.Ok.wish{X:Cx}(ok:X.Ok)(E:Value->Shared->Prop):(X.wish E).Ok:=
 ⟨ok.mod,ok.kind,ok.glob,ok.blt,ok.above,ok.inj,ok.has,ok.cab,ok.hd,ok.frames,ok.stk,ok.exf,ok.bs,ok.bsz,ok.noex,ok.exfs,ok.pI,ok.frf⟩
theorem Cx.Ok.lM{X:Cx}{E:Value->Shared->Prop}(ok:(X.wish E).Ok):X.Ok:=
 ⟨ok.mod,ok.kind,ok.glob,ok.blt,ok.above,ok.inj,ok.has,ok.cab,ok.hd,ok.frames,ok.stk,ok.exf,ok.bs,ok.bsz,ok.noex,ok.exfs,ok.pI,ok.frf⟩
section
variable{X:Cx}{pins:List (Addr×Obj)}{σ:St}{H:Hp}{s:Shared}{E:Value->Shared->Prop}
theorem Inv.wish(I:Inv X pins σ H s)(E:Value->Shared->Prop):Inv (X.wish E) pins σ H s:=⟨I.ok.wish E,I.os,I.bare,I.base,I.loc,I.cell,I.free,I.freeC,I.pin,I.hok,I.len⟩
theorem Inv.lM(I:Inv (X.wish E) pins σ H s):Inv X pins σ H s:=⟨I.ok.lM,I.os,I.bare,I.base,I.loc,I.cell,I.free,I.freeC,I.pin,I.hok,I.len⟩
theorem SP.lM{D:Ends}{f:Flow}{s':Shared}(h:SP (X.wish E) pins D f s'):SP X pins D f s':=by
 cases f with
 |next=>obtain⟨σ',H',I,q⟩:=h;exact⟨σ',H',I.lM,q⟩
 |brk=>obtain⟨σ',H',I,q⟩:=h;exact⟨σ',H',I.lM,q⟩
 |cont=>obtain⟨σ',H',I,q⟩:=h;exact⟨σ',H',I.lM,q⟩
 |ret u=>obtain⟨v,σ',H',I,r,q⟩:=h;exact⟨v,σ',H',I.lM,r,q⟩
theorem PSs.nox{st:List Stmt}{t:TS}(h:PSs X.nox st t):PSs X st t:=λpins s σ H D I hw=>
 Zbl (h pins s σ H D (I.wish _) hw) (λ_ _ q=>q.lM) λ_ _ z=>False.elim z
end
section
variable{X:Cx}{st:Stmt}{rest:List Stmt}{t u:TS}{e:Expr}{te:TE}{pos:Pos}
def PL:TS:=λD σ H=>D.nx σ H
def Sh(t u:TS):TS:=λD σ H=>t { D with nx:=u D } σ H
theorem dO:PSs X [] PL:=λ_ _ σ H _ I h=>wpAny_execs_nil ⟨σ,H,I,h⟩
theorem aB(h1:PS X st t)(h2:PSs X rest u):PSs X (st::rest) (Sh t u):=by
 intro pins s σ H D I h;refine wpAny_execs_cons (thn (h1 pins s σ H { D with nx:=u D } I h) λf s1 q=>?_);cases f with
 |next=>
  obtain⟨σ',H',I',q⟩:=q;exact h2 pins s1 σ' H' D I' q
 |ret v=>exact q
 |brk=>exact q
 |cont=>exact q
theorem aN(h1:PS X st t):PSs X [st] t:=by
 intro pins s σ H D I h;refine wpAny_execs_cons (thn (h1 pins s σ H D I h) λf s1 q=>?_);cases f with
 |next=>exact wpAny_execs_nil q
 |ret v=>exact q
 |brk=>exact q
 |cont=>exact q
theorem Inv.quiet{pins:List (Addr×Obj)}{σ:St}{H:Hp}{s:Shared}(I:Inv X pins σ H s):interactive X.env=false:=by simp[interactive,I.ok.kind]
def Iz(te:TE):TS:=λD σ H=>te σ H λ_ H1=>D.nx σ H1
theorem iz(he:PE X e te)(hs:swapsWith e none pos.line X.env=pure false:=by rfl):PS X (.Expr e pos) (Iz te):=by
 intro pins s σ H D I h;exact wpAny_Expr_any (thn (he pins s σ H _ I h) λv s1 ⟨x,H1,I1,r1,q1⟩=>⟨σ,H1,I1,q1⟩) I.quiet hs
def IK(te:TE):TS:=λD σ H=>te σ H D.rt
theorem bT(he:PE X e te):PS X (.Return (some e) pos) (IK te):=by
 intro pins s σ H D I h;exact wpAny_Return_some (thn (he pins s σ H _ I h) λv s1 ⟨x,H1,I1,r1,q1⟩=>⟨x,σ,H1,I1,r1,q1⟩)
def Sq(c:TT)(t u:TS):TS:=λD σ H=>c σ H λb H1=>if b=true then t D σ H1 else u D σ H1
theorem g8{c:Expr}{a b:List Stmt}{tc:TT}(hc:PT X c tc)(ha:PSs X a t)(hb:PSs X b u):PS X (.If c a b pos) (Sq tc t u):=by
 intro pins s σ H D I h;refine wpAny_If (thn (hc pins s σ H _ I h) ?_);rintro d s1 ⟨H1,I1,q1⟩;cases d with
 |true=>exact ha pins s1 σ H1 D I1 q1
 |false=>exact hb pins s1 σ H1 D I1 q1
end
noncomputable abbrev TG:=V->St->Hp->(St->Hp->Prop)->Prop
noncomputable abbrev TGs:=List V->St->Hp->(St->Hp->Prop)->Prop
def PG(X:Cx)(target:Expr)(t:TG):Prop:=
 ∀ (pins:List (Addr×Obj)) (s:Shared) (σ:St) (H:Hp) (v:V) (u:Value) (Q:St->Hp->Prop),Inv X pins σ H s->RelV v u->t v σ H Q ->
  wpAny (model X.prog X.w) X.A (assign target X.env u) (λ_ s'=>∃ σ' H',Inv X pins σ' H' s'/\Q σ' H') X.xe s
def PGs(X:Cx)(ts:List Expr)(t:TGs):Prop:=
 ∀ (pins:List (Addr×Obj)) (s:Shared) (σ:St) (H:Hp) (vs:List V) (us:List Value) (Q:St->Hp->Prop),Inv X pins σ H s->Vals vs us->t vs σ H Q ->
  wpAny (model X.prog X.w) X.A (assignInOrder ((assignEach ts X.env).map (·.2)) us) (λ_ s'=>∃ σ' H',Inv X pins σ' H' s'/\Q σ' H') X.xe s
section
variable{X:Cx}{pos:Pos}
def tY(i:Nat):TG:=λv σ H Q=>Q (σ.set i (some v)) H
theorem bM{i:Nat}{x:Str}(hN:X.N.Nodup)(hi:X.N[i]?=some x)(hx:Loc X.env.scope x)(hf:X.fn x=true\/X.env.scope.names.lookup x=some .local:=by first|exact .inl rfl|exact .inr rfl|assumption):PG X (.Name x pos) (tY i):=by
 intro pins s σ H v u Q I r h;exact wpAny_assign_Name (yO I hN hi hx r (λs' I'=>⟨_,H,I',h⟩) hf)
def Ss:TGs:=λvs σ H Q=>vs=[]/\Q σ H
def PN(t:TG)(u:TGs):TGs:=λvs σ H Q=>∃ v r,vs=v::r/\t v σ H λσ' H'=>u r σ' H' Q
theorem nq:PGs X [] Ss:=by
 intro pins s σ H vs us Q I r h;obtain⟨e,h⟩:=h;subst e;cases r;exact assignInOrder_nil ⟨σ,H,I,h⟩
theorem cZ{e:Expr}{es:List Expr}{t:TG}{u:TGs}(h1:PG X e t)(h2:PGs X es u)
  (hs:(assignEach (e::es) X.env).map (·.2)=assign e X.env::(assignEach es X.env).map (·.2):=by rfl):PGs X (e::es) (PN t u):=by
 intro pins s σ H vs us Q I r h;obtain⟨v,vr,e1,h⟩:=h;subst e1;cases r with
 |cons r rr=>
  rw[hs];refine assignInOrder_cons (thn (h1 pins s σ H _ _ _ I r h) ?_);rintro _ s1 ⟨σ1,H1,I1,q1⟩;exact h2 pins s1 σ1 H1 _ _ Q I1 rr q1
def QC(K:Frag)(n:Nat)(t:TGs):TG:=λv σ H Q=>∃ a xs,v=.ref a/\SqT K H a xs/\xs.length=n/\t xs σ H Q
theorem qU{es:List Expr}{k:Nat}{t:TGs}{n:Nat}(hc:X.calm=true)(h:PGs X es t)
  (hn:(assignEach es X.env).length=n:=by rfl)(hst:(assignEach es X.env).findIdx? (·.1)=none:=by rfl):PG X (.Tuple es k pos) (QC X.K n t):=by
 intro pins s σ H v u Q I r hw;obtain⟨a,xs,e1,hq,hl,hw⟩:=hw;subst e1;cases r;obtain⟨its,rv,ht,hz⟩:=I.tuple hq;refine assign_Tuple_tuple (I.ok.hd hc) ht (by simp[hn,<-hl,rv.length]) hst λh' hx=>?_
 have I1:Inv X pins σ H { s with heap:=h' }:=I.kept (t':=s.toks) λb o e=>hx b o (Zaz (Zaq e)) e;exact h pins _ σ H xs _ Q I1 (by simpa using rv) hw
def Gy(te:TE)(g:TG):TS:=λD σ H=>te σ H λx H1=>g x σ H1 D.nx
theorem Bq{tg e:Expr}{te:TE}{g:TG}(he:PE X e te)(hg:PG X tg g)(hs:swapsWithSole [tg] e pos.line X.env=pure false:=by rfl)(hw:swappedStores [tg] e X.env=pure none:=by rfl)
  (h1:(assignEach [tg] X.env).map (·.2)=[assign tg X.env]:=by rfl):PS X (.Assign [tg] e pos) (Gy te g):=by
 intro pins s σ H D I h;refine wpAny_Assign_stores (thn (he pins s σ H _ I h) ?_) hs hw;rintro v s1 ⟨x,H1,I1,r1,q1⟩;rw[h1];exact thn (hg pins s1 σ H1 x v _ I1 r1 q1) λ_ s2 q=>q
theorem aY{i:Nat}{x:Str}{e:Expr}{te:TE}{pos':Pos}(hN:X.N.Nodup)(hi:X.N[i]?=some x)(hx:Loc X.env.scope x)(he:PE X e te)(hs:swapsWith e (some (.Name x pos')) pos.line X.env=pure false:=by rfl)(hf:X.fn x=true\/X.env.scope.names.lookup x=some .local:=by first|exact .inl rfl|exact .inr rfl|assumption) :
  PS X (.Assign [.Name x pos'] e pos) (Gy te (tY i)):=by
 intro pins s σ H D I h;refine wpAny_Assign_Name (thn (he pins s σ H _ I h) ?_) hs;rintro v s1 ⟨y,H1,I1,r1,q1⟩;exact yO I1 hN hi hx r1 (λs2 I2=>⟨_,H1,I2,q1⟩) hf
end
structure It where
 go:Nat->Hp->Prop
 yld:Nat->Hp->V->Hp->Prop
 stop:Nat->Hp->Prop
def oK(X:Cx)(pins:List (Addr×Obj))(H:Hp)(b:Addr):Prop:=
 H b=none/\b≠X.env.locals/\b ∉ X.fs/\(b∈X.ex\/X.s₀.heap.objs.size<=b)/\(∀ x c,X.env.cells.lookup x=some c->c≠b)/\∀ p∈X.pn++pins,p.1≠b
theorem Inv.tZ{X:Cx}{pins:List (Addr×Obj)}{σ:St}{H H':Hp}{s:Shared}{b:Addr}(I:Inv X pins σ H s)(hb:s.heap.objs.size<=b)(hn:H' b=none):oK X pins H' b:=by
 refine⟨hn,Zb1 (Zaw I.lt hb),I.Ul hb,.inr (ZaX I.sz hb),λx c e z=>?_,λp hp z=>?_⟩
 ·obtain⟨v,q⟩:=I.cell x c e;exact absurd (Zaw q.lt (by rw[z];exact hb)) (ZbM _)
 ·exact absurd (Zaw (Zaq (I.pin p hp).1) (by rw[z];exact hb)) (ZbM _)
structure Turn(P:Program)(w:World)(K:Frag)(tg:Expr)(J:It)(fp:List Addr)(it:Addr)(tn:Nat->Heap->Prop):Prop where
 mem:it∈fp
 obj:∀ i h,tn i h->∀ b∈fp,∃ o,h.get? b=some o/\∀ v,o.data≠.cell v
 keep:∀ i h h',tn i h->(∀ b∈fp,∀ o,h.get? b=some o->h'.get? b=some o)->tn i h'
 item:∀ (X:Cx),X.prog=P->X.w=w->X.K=K->X.calm=true->∀ (i:Nat) (pins:List (Addr×Obj)) (s:Shared) (σ:St) (H:Hp) (E:Value->Shared->Prop),Inv X pins σ H s->(∀ b∈fp,oK X pins H b)->tn i s.heap->J.go i H ->
  wpAny (model P w) X.A (pyNext (.ref it)) (λr s1=>∃ u,r=some u /\
   wpAny (model P w) X.A (letOwnedTupleGo tg (.ref it) u) (λ_ s2=>∃ x H',Inv X pins σ H' s2/\RelV x u/\J.yld i H x H'/\tn (i+1) s2.heap/\∀ b∈fp,H' b=none) E s1) E s
 done:∀ (X:Cx),X.prog=P->X.w=w->X.K=K->X.calm=true->∀ (i:Nat) (pins:List (Addr×Obj)) (s:Shared) (σ:St) (H:Hp) (E:Value->Shared->Prop),Inv X pins σ H s->(∀ b∈fp,oK X pins H b)->tn i s.heap->J.stop i H ->
  wpAny (model P w) X.A (pyNext (.ref it)) (λr s1=>r=none/\Inv X pins σ H s1) E s
 self:∀ (A:Around) (i:Nat) (s:Shared) (Q:Value->Shared->Prop) (E:Value->Shared->Prop),tn i s.heap->Q (.ref it) s->wpAny (model P w) A (pyIter (.ref it)) Q E s
noncomputable abbrev TI:=St->Hp->(It->Hp->Prop)->Prop
def PIE(X:Cx)(pins:List (Addr×Obj))(σ:St)(tg:Expr)(R:It->Hp->Prop)(itv:Value)(s2:Shared):Prop:=
 ∃ (it:Addr) (fp:List Addr) (tn:Nat->Heap->Prop) (J:It) (H':Hp),itv=.ref it/\Inv X pins σ H' s2/\Turn X.prog X.w X.K tg J fp it tn/\tn 0 s2.heap/\(∀ b∈fp,oK X pins H' b)/\R J H'
def PI(X:Cx)(tg iter:Expr)(wi:TI):Prop:=
 ∀ (pins:List (Addr×Obj)) (s:Shared) (σ:St) (H:Hp) (R:It->Hp->Prop),Inv X pins σ H s->wi σ H R ->
  wpAny (model X.prog X.w) X.A (eval iter X.env) (λv s1=>wpAny (model X.prog X.w) X.A (pyIter v) (PIE X pins σ tg R) X.xe s1) X.xe s
theorem yP{M:Model}{A:Around}{E:Value->Shared->Prop}{s:Shared}{tg:Expr}{it:Addr}{u:Value}{o:Obj}{n:String}{vs:Array Value}{Q:Unit->Shared->Prop}(ho:s.heap.get? it=some o)(hc:o.cls=.type n)(hd:o.data=.fields vs)
  (hn:["enumerate","zip","dict_itemiterator","dict_reverseitemiterator","odict_iterator","itertools.zip_longest","itertools.pairwise"].contains n=false)(hQ:Q () s):wpAny M A (letOwnedTupleGo tg (.ref it) u) Q E s:=by
 unfold letOwnedTupleGo;cases tg<;>first
  |exact Zaj hQ
  |(cases u<;>first
    |exact Zaj hQ
    |(refine Zab (wpAny_load ho ?_)
      rw[hc,hd];show wpAny M A (if(["enumerate","zip","dict_itemiterator","dict_reverseitemiterator","odict_iterator","itertools.zip_longest","itertools.pairwise"].contains n&&vs[0]?==some (rawInt _))=true then _ else _) Q E s
      rw[Zak (by intro h;rw[hn,Bool.false_and] at h;cases h)]
      exact Zaj hQ))
def Itl(K:Frag)(a:Addr):It:=
 ⟨λi H=>∃ xs x,SqL K H a xs/\xs[i]?=some x,λi H x H'=>H'=H/\∀ xs,SqL K H a xs->xs[i]?=some x,λi H=>∃ xs,SqL K H a xs/\xs.length<=i⟩
def Itt(K:Frag)(a:Addr):It:=
 ⟨λi H=>∃ xs x,SqT K H a xs/\xs[i]?=some x,λi H x H'=>H'=H/\∀ xs,SqT K H a xs->xs[i]?=some x,λi H=>∃ xs,SqT K H a xs/\xs.length<=i⟩
def Itr(lo:Int)(n:Nat):It:=⟨λi _=>i<n,λi H x H'=>H'=H/\x=.int (lo+i),λi _=>n<=i⟩
theorem Gz{P:Program}{w:World}{K:Frag}{tg:Expr}(a it:Addr):Turn P w K tg (Itl K a) [it] it (λi h=>h.IsListIter it a i) where
 mem:=by simp
 obj:=λi h st b hb=>by
  have e:b=it:=by simpa using hb
  subst e;obtain⟨o,e,c,d⟩:=st;exact⟨o,e,λv z=>by rw[d] at z;cases z⟩
 keep:=λi h h' st k=>st.at λo e=>k it (by simp) o e
 item:=by
  intro X hP hw hK hc i pins s σ H E I hf st hg;subst hP hw hK;obtain⟨xs,x,hq,hx⟩:=hg;obtain⟨its,rv,p,hz⟩:=I.list hq;obtain⟨u,hu,ru⟩:=rv.get hx;obtain⟨f0,f1,f2,f3,f4,f5⟩:=hf it (by simp)
  refine wpAny_pyNext_list_item st p.isList (x:=u) (by simpa using hu) λh' st' sb=>?_
  have I1:Inv X pins σ H { s with heap:=h' }:=I.turned (t':=s.toks) (λb o hb e=>(sb.2 b hb).trans e) f0 f1 f3 f4 f5;obtain⟨o,e,c,d⟩:=id st';exact⟨u,rfl,yP (s:={ s with heap:=h' }) e c d (by decide) ⟨x,H,I1,ru,⟨rfl,λys hy=>by rw[I.tX hy hq];exact hx⟩,st',λb hb=>(hf b hb).1⟩⟩
 done:=by
  intro X hP hw hK hc i pins s σ H E I hf st hg;subst hP hw hK;obtain⟨xs,hq,hx⟩:=hg;obtain⟨its,rv,p,hz⟩:=I.list hq;obtain⟨f0,f1,f2,f3,f4,f5⟩:=hf it (by simp)
  have hl:=rv.length;exact wpAny_pyNext_list_end (I.ok.hd hc) st p.isList (by simp;lia) λh' eb=>⟨rfl,I.turned (t':=s.toks) (λb o hb e=>eb b o hb e) f0 f1 f3 f4 f5⟩
 self:=λ_ _ _ _ _ st h=>wpAny_pyIter_listiter st h
theorem Br{P:Program}{w:World}{K:Frag}{tg:Expr}(a it:Addr):Turn P w K tg (Itt K a) [it] it (λi h=>h.IsTupleIter it a i) where
 mem:=by simp
 obj:=λi h st b hb=>by
  have e:b=it:=by simpa using hb
  subst e;obtain⟨o,e,c,d⟩:=st;exact⟨o,e,λv z=>by rw[d] at z;cases z⟩
 keep:=λi h h' st k=>st.at λo e=>k it (by simp) o e
 item:=by
  intro X hP hw hK hc i pins s σ H E I hf st hg;subst hP hw hK;obtain⟨xs,x,hq,hx⟩:=hg;obtain⟨its,rv,p,hz⟩:=I.tuple hq;obtain⟨u,hu,ru⟩:=rv.get hx;obtain⟨f0,f1,f2,f3,f4,f5⟩:=hf it (by simp)
  refine wpAny_pyNext_tuple_item st (show s.heap.IsTuple a its.toArray from p) (x:=u) (by simpa using hu) λh' st' sb=>?_
  have I1:Inv X pins σ H { s with heap:=h' }:=I.turned (t':=s.toks) (λb o hb e=>(sb.2 b hb).trans e) f0 f1 f3 f4 f5;obtain⟨o,e,c,d⟩:=id st';exact⟨u,rfl,yP (s:={ s with heap:=h' }) e c d (by decide) ⟨x,H,I1,ru,⟨rfl,λys hy=>by rw[I.vL hy hq];exact hx⟩,st',λb hb=>(hf b hb).1⟩⟩
 done:=by
  intro X hP hw hK hc i pins s σ H E I hf st hg;subst hP hw hK;obtain⟨xs,hq,hx⟩:=hg;obtain⟨its,rv,p,hz⟩:=I.tuple hq;obtain⟨f0,f1,f2,f3,f4,f5⟩:=hf it (by simp)
  have hl:=rv.length;exact wpAny_pyNext_tuple_end (I.ok.hd hc) st (show s.heap.IsTuple a its.toArray from p) (by simp;omega) λh' eb=>⟨rfl,I.turned (t':=s.toks) (λb o hb e=>eb b o hb e) f0 f1 f3 f4 f5⟩
 self:=λ_ _ _ _ _ st h=>wpAny_pyIter_tupleiter st h
theorem Bt{P:Program}{w:World}{K:Frag}{tg:Expr}(it:Addr)(lo:Int)(n:Nat):Turn P w K tg (Itr lo n) [it] it (λi h=>IsRangeIter h it (lo+(i:Nat)*1) ((n:Int)-(i:Nat)) 1) where
 mem:=by simp
 obj:=λi h st b hb=>by
  have e:b=it:=by simpa using hb
  subst e;exact⟨_,st,λv z=>by
   have z':Data.fields _=Data.cell v:=z;cases z'⟩
 keep:=λi h h' st k=>k it (by simp) _ st
 item:=by
  intro X hP hw hK hc i pins s σ H E I hf st hg;subst hP hw hK;obtain⟨f0,f1,f2,f3,f4,f5⟩:=hf it (by simp)
  have W:=Walks.range (prog:=X.prog) (w:=X.w) (I.ok.hd hc) it lo 1 n;refine W.item i s _ _ hg st λv h' tk hv st' kk=>?_;obtain⟨t,rfl⟩:=hv;have I1:Inv X pins σ H { s with heap:=h',toks:=tk }:=I.turned (λb o hb e=>kk b o (by simpa using hb) e) f0 f1 f3 f4 f5
  refine⟨_,rfl,yP (s:={ s with heap:=h',toks:=tk }) (n:="range_iterator") st' rfl rfl (by decide) ⟨.int (lo+i),H,I1,⟨t,?_⟩,⟨rfl,rfl⟩,st',λb hb=>(hf b hb).1⟩⟩
  rw[Int.mul_one]
 done:=by
  intro X hP hw hK hc i pins s σ H E I hf st hg;subst hP hw hK;obtain⟨f0,f1,f2,f3,f4,f5⟩:=hf it (by simp)
  exact wpAny_pyNext_range_end (I.ok.hd hc) st (by have:n<=i:=hg;omega) λh' eb=>⟨rfl,I.turned (t':=s.toks) (λb o hb e=>eb b o hb e) f0 f1 f3 f4 f5⟩
 self:=λ_ _ _ _ _ st h=>wpAny_pyIter_rangeiter st h
section
variable{X:Cx}{tg:Expr}
theorem IV{pins:List (Addr×Obj)}{σ:St}{H:Hp}{s:Shared}{R:It->Hp->Prop}{E:Value->Shared->Prop}{lo hi:Int}{t u v:Tok}{tk:Nat}(I:Inv X pins σ H s)(h1:-(2^62)<=lo)(h2:lo<2^62)(h3:-(2^62)<=hi)(h4:hi<2^62)
  (q:R (Itr lo (hi-lo).toNat) H):wpAny (model X.prog X.w) X.A (pyIter (.ref s.heap.objs.size)) (PIE X pins σ tg R) E { s with heap:=s.heap.push { cls:=.type "range",data:=.fields #[.int lo t,.int hi u,.int 1 v] },toks:=tk }:=by
 refine wpAny_pyIter_range (IsRange.new ..) (small_one h1 h2 h3 h4) ?_;have I1:Inv X pins σ H { s with heap:=s.heap.push { cls:=.type "range",data:=.fields #[.int lo t,.int hi u,.int 1 v] },toks:=tk }:=I.kept λb o e=>Zac _ e;refine⟨(s.heap.push { cls:=.type "range",data:=.fields #[.int lo t,.int hi u,.int 1 v] }).objs.size,[(s.heap.push { cls:=.type "range",data:=.fields #[.int lo t,.int hi u,.int 1 v] }).objs.size],_,_,H,rfl,
  I1.kept (t':=tk) λb o e=>Zac _ e,Bt _ lo (hi-lo).toNat,?_,λb hb=>?_,q⟩
 ·have e1:lo+((0:Nat):Int)*1=lo:=by simp
  have e2:(((hi-lo).toNat:Nat):Int)-((0:Nat):Int)=Builtin.Range.rangeSize lo hi 1:=by rw[rangeSize_one];split<;>omega
  show IsRangeIter _ _ (lo+((0:Nat):Int)*1) ((((hi-lo).toNat:Nat):Int)-((0:Nat):Int)) 1
  rw[e1,e2];exact Zam _ rfl
 ·have e:b=(s.heap.push { cls:=.type "range",data:=.fields #[.int lo t,.int hi u,.int 1 v] }).objs.size:=by simpa using hb
  subst e;exact I1.tZ (Zaf _) (I1.hok.fresh (Zaf _))
def PP(ta:TA):TI:=λσ H R=>ta σ H λvs H1=>∃ j:Int,vs=[.int j]/\-(2^62)<=j/\j<2^62/\R (Itr 0 j.toNat) H1
theorem dF{a:Expr}{ta:TA}{p pos:Pos}(hg:Gl X "range")(hm:X.mg "range"=none)(ha:PA X [a] ta)(hs:starEach [a] X.env=[(false,eval a X.env)]:=by rfl):PI X tg (.Call (.Name "range" p) [a] [] pos) (PP ta):=by
 intro pins s σ H R I h;refine Call_ (qT I hg hm boot_range (PyProof.Rows.callWith_type1 (thn (ha pos pins s σ H _ I h) ?_) hs rfl));rintro us s1 ⟨vs,H1,I1,r1,q1⟩;obtain⟨j,e,q1,q2,q⟩:=q1;subst e;cases r1 with
 |cons r rr=>
  cases rr;obtain⟨t,rfl⟩:=r;exact call_range_1 (IV I1 (by omega) (by omega) q1 q2 (by simpa using q))
def QD(wi:TI)(g:TG)(tb:TS):TS:=λD σ H=>wi σ H λJ H1=>∃ W:Nat->Nat->St->Hp->Prop,(∃ m,W 0 m σ H1)/\∀ i m σ H,W i m σ H ->
 (J.stop i H/\D.nx σ H)\/(J.go i H/\∃ N:St->Hp->Prop,(∀ σ' H',N σ' H'->∃ m',m'<m/\W (i+1) m' σ' H')/\∀ x H',J.yld i H x H'->g x σ H' λσ2 H2=>tb { D with nx:=N,ct:=N,bk:=D.nx } σ2 H2)
def t6(fp:List Addr)(h:Heap):List (Addr×Obj):=fp.filterMap λb=>(h.get? b).map λo=>(b,o)
theorem j5{fp:List Addr}{h:Heap}{b:Addr}{o:Obj}(hb:b∈fp)(e:h.get? b=some o):(b,o)∈t6 fp h:=List.mem_filterMap.mpr ⟨b,hb,by rw[e];rfl⟩
theorem GC{fp:List Addr}{h:Heap}{p:Addr×Obj}(hp:p∈t6 fp h):p.1∈fp/\h.get? p.1=some p.2:=by
 obtain⟨b,hb,e⟩:=List.mem_filterMap.mp hp;cases q:h.get? b with
 |none=>rw[q] at e;cases e
 |some o=>
  rw[q] at e;have e':(b,o)=p:=Zah e;subst e';exact⟨hb,q⟩
theorem Inv.pinned{pins:List (Addr×Obj)}{σ:St}{H:Hp}{s:Shared}{fp:List Addr}(I:Inv X pins σ H s)(hf:∀ b∈fp,oK X pins H b)(ho:∀ b∈fp,∃ o,s.heap.get? b=some o/\∀ v,o.data≠.cell v):Inv X (pins++t6 fp s.heap) σ H s:=
 I.wW λp hp=>(Zad.mp hp).elim (λz=>I.pin p (ZaA _ z)) λz=>by
  obtain⟨hb,e⟩:=GC z;obtain⟨f0,f1,f2,_⟩:=hf p.1 hb;obtain⟨o,e',d⟩:=ho p.1 hb;rw[e] at e';cases e';exact⟨e,f0,f1,f2,d⟩
theorem Inv.jD{pins pl:List (Addr×Obj)}{σ:St}{H:Hp}{s:Shared}(I:Inv X (pins++pl) σ H s):Inv X pins σ H s:=I.wW λp hp=>I.pin p (ZaA _ (List.mem_append_left _ hp))
theorem fB{iter:Expr}{body:List Stmt}{wi:TI}{g:TG}{tb:TS}{pos:Pos}(hp:PassesOwn (model X.prog X.w) X.A X.env X.xe)(hc:X.calm=true)(hi:PI X tg iter wi)(hg:PG X tg g)(hb:PSs X body tb)
  (hs:∀ x,foldedSetIterable iter X.env x=pure x:=by intro _;rfl):PS X (.For tg iter body [] pos) (QD wi g tb):=by
 intro pins s σ H D I h;refine wpAny_For (thn (hi pins s σ H _ I h) λv s1 h1=>thn h1 λitv s2 h2=>?_) hs;obtain⟨it,fp,tn,J,H2,e,I2,T,st2,f2,W,⟨m0,w0⟩,turn⟩:=h2;subst e;have stat:∀ {H':Hp},(∀ b∈fp,H' b=none)->∀ b∈fp,oK X pins H' b:=λhn b hb=>⟨hn b hb,(f2 b hb).2⟩;refine codeAny_forLoop_any (λn s'=>∃ i σ' H',Inv X pins σ' H' s'/\tn i s'.heap/\(∀ b∈fp,H' b=none)/\W i n σ' H') ?_ m0 ⟨0,σ,H2,I2,st2,λb hb=>(f2 b hb).1,w0⟩;rintro n s3 ⟨i,σ3,H3,I3,st3,fr3,w3⟩;rcases turn i n σ3 H3 w3 with⟨stop,qn⟩|⟨go,N,hN,step⟩
 ·refine wpAny_passesOwn hp (thn (T.done X rfl rfl rfl hc i pins s3 σ3 H3 X.xe I3 (stat fr3) st3 stop) ?_);rintro r s4 ⟨hr,I4⟩;subst hr;exact wpAny_execs_nil ⟨σ3,H3,I4,qn⟩
 ·refine wpAny_passesOwn hp (thn (T.item X rfl rfl rfl hc i pins s3 σ3 H3 X.xe I3 (stat fr3) st3 go) ?_);rintro r s4 ⟨u,hr,h4⟩;subst hr;refine wpAny_passesOwn hp (thn h4 ?_);rintro _ s5 ⟨x,H5,I5,r5,y5,st5,fr5⟩;have I5':=I5.pinned (stat fr5) (T.obj _ _ st5);refine wpAny_passesOwn hp (thn (hg _ s5 σ3 H5 x u _ I5' r5 (step x H5 y5)) ?_);rintro _ s6 ⟨σ6,H6,I6,q6⟩;refine wpAny_passesOwn hp (thn (hb _ s6 σ6 H6 _ I6 q6) λf s7 q7=>?_);have again:∀ {σ7:St}{H7:Hp},Inv X (pins++t6 fp s5.heap) σ7 H7 s7->N σ7 H7->∃ m,m<n/\∃ i σ' H',Inv X pins σ' H' s7/\tn i s7.heap/\(∀ b∈fp,H' b=none)/\W i m σ' H':=λ{σ7 H7} I7 n7=>by
   obtain⟨m',hm,w7⟩:=hN σ7 H7 n7;refine⟨m',hm,i+1,σ7,H7,I7.jD,T.keep _ _ _ st5 λb hb o e=>(I7.pin (b,o) (ZaA _ (ZaA _ (j5 hb e)))).1,λb hb=>?_,w7⟩;obtain⟨o,e,d⟩:=T.obj _ _ st5 b hb;exact(I7.pin (b,o) (ZaA _ (ZaA _ (j5 hb e)))).2.1
  cases f with
  |next=>obtain⟨σ7,H7,I7,n7⟩:=q7;exact again I7 n7
  |cont=>obtain⟨σ7,H7,I7,n7⟩:=q7;exact again I7 n7
  |brk=>obtain⟨σ7,H7,I7,q7⟩:=q7;exact⟨σ7,H7,I7.jD,q7⟩
  |ret v=>obtain⟨x7,σ7,H7,I7,r7,q7⟩:=q7;exact⟨x7,σ7,H7,I7.jD,r7,q7⟩
end
noncomputable abbrev R2:=V->V->Hp->VK->Prop
def OpR(X:Cx)(f:Value->Value->Sem Value)(r:R2):Prop:=
 ∀ (pins:List (Addr×Obj)) (s:Shared) (σ:St) (H:Hp) (x y:V) (v u:Value) (Q:VK),Inv X pins σ H s->RelV x v->RelV y u->r x y H Q ->
  wpAny (model X.prog X.w) X.A (f v u) (EP X pins σ Q) X.xe s
def fL(X:Cx)(f:Value)(r:List V->Hp->VK->Prop):Prop:=
 ∀ (pins:List (Addr×Obj)) (s:Shared) (σ:St) (H:Hp) (xs:List V) (us:List Value) (Q:VK),Inv X pins σ H s->Vals xs us->r xs H Q ->
  wpAny (model X.prog X.w) X.A (call f us) (EP X pins σ Q) X.xe s
def tOp(r:R2)(ta tb:TE):TE:=λσ H Q=>ta σ H λx H1=>tb σ H1 λy H2=>r x y H2 Q
def rI(C:Int->Int->Prop)(g:Int->Int->V):R2:=λx y H Q=>∃ i j,x=.int i/\y=.int j/\C i j/\Q (g i j) H
def rI0(g:Int->Int->V):R2:=λx y H Q=>∃ i j,x=.int i/\y=.int j/\Q (g i j) H
section
variable{X:Cx}{a b:Expr}{ta tb:TE}{pos:Pos}
theorem QF(ha:PE X a ta)(hb:PE X b tb){pins:List (Addr×Obj)}{s:Shared}{σ:St}{H:Hp}{R:V->V->Hp->Prop}(I:Inv X pins σ H s)
  (h:ta σ H λx H1=>tb σ H1 λy H2=>R x y H2){Q:Value->Shared->Prop}{f:Value->Value->Sem Value}
  (hf:∀ v u s2 x y H2,Inv X pins σ H2 s2->RelV x v->RelV y u->R x y H2->wpAny (model X.prog X.w) X.A (f v u) Q X.xe s2) :
  wpAny (model X.prog X.w) X.A (eval a X.env) (λv s₁=>wpAny (model X.prog X.w) X.A (eval b X.env) (λu s₂=>wpAny (model X.prog X.w) X.A (f v u) Q X.xe s₂) X.xe s₁) X.xe s:=by
 refine thn (ha pins s σ H _ I h) ?_;rintro v s1 ⟨x,H1,I1,r1,q1⟩;refine thn (hb pins s1 σ H1 _ I1 q1) ?_;rintro u s2 ⟨y,H2,I2,r2,q2⟩;exact hf v u s2 x y H2 I2 r1 r2 q2
theorem aP{op:Operator}{r:R2}(ho:OpR X (binaryOp op) r)(ha:PE X a ta)(hb:PE X b tb):PE X (.BinOp a op b pos) (tOp r ta tb):=by
 intro pins s σ H Q I h;exact wpAny_BinOp (QF ha hb I h λv u s2 x y H2 I2 rx ry q=>ho pins s2 σ H2 x y v u Q I2 rx ry q)
theorem opI{f:Value->Value->Sem Value}{C:Int->Int->Prop}{g:Int->Int->Int}
  (rule:∀ (i j:Int) (t u:Tok) (s:Shared) (Q:Value->Shared->Prop) (E:Value->Shared->Prop),C i j->Q (.int (g i j) s.toks) { s with toks:=s.toks+1 }->wpAny (model X.prog X.w) X.A (f (.int i t) (.int j u)) Q E s) :
  OpR X f (rI C λi j=>.int (g i j)):=by
 intro pins s σ H x y v u Q I rx ry h;obtain⟨i,j,rfl,rfl,hc,q⟩:=h;obtain⟨t,rfl⟩:=rx;obtain⟨t',rfl⟩:=ry;exact rule i j t t' s _ _ hc ⟨.int (g i j),H,I.tok _,⟨_,rfl⟩,q⟩
theorem Su{f:Value->Value->Sem Value}{g:Int->Int->Int}
  (rule:∀ (i j:Int) (t u:Tok) (s:Shared) (Q:Value->Shared->Prop) (E:Value->Shared->Prop),Q (.int (g i j) s.toks) { s with toks:=s.toks+1 }->wpAny (model X.prog X.w) X.A (f (.int i t) (.int j u)) Q E s) :
  OpR X f (rI0 λi j=>.int (g i j)):=by
 intro pins s σ H x y v u Q I rx ry h;obtain⟨i,j,rfl,rfl,q⟩:=h;obtain⟨t,rfl⟩:=rx;obtain⟨t',rfl⟩:=ry;exact rule i j t t' s _ _ ⟨.int (g i j),H,I.tok _,⟨_,rfl⟩,q⟩
theorem Sv{f:Value->Value->Sem Value}{g:Int->Int->Bool}
  (rule:∀ (i j:Int) (t u:Tok) (s:Shared) (Q:Value->Shared->Prop) (E:Value->Shared->Prop),Q (.bool (g i j)) s->wpAny (model X.prog X.w) X.A (f (.int i t) (.int j u)) Q E s) :
  OpR X f (rI0 λi j=>.bl (g i j)):=by
 intro pins s σ H x y v u Q I rx ry h;obtain⟨i,j,rfl,rfl,q⟩:=h;obtain⟨t,rfl⟩:=rx;obtain⟨t',rfl⟩:=ry;exact rule i j t t' s _ _ ⟨.bl (g i j),H,I,rfl,q⟩
def QG(i j:Int):Prop:=0<j/\j<1073741824
def IW(i j:Int):Prop:=0<=j/\j<=1000000/\i.natAbs<2^64
def Bu(i j:Int):Prop:=(-(2^64)<i/\i<2^64)\/(-(2^64)<j/\j<2^64)
theorem Bu.ok{i j:Int}(h:Bu i j):IntMulOk i j:=by
 rcases h with⟨h1,h2⟩|⟨h1,h2⟩
 ·exact .of_left (intBits_le_64 h1 h2)
 ·exact .of_right (intBits_le_64 h1 h2)
theorem QH:OpR X (binaryOp .Add) (rI0 λi j=>.int (i+j)):=Su λ_ _ _ _ _ _ _ q=>add_int q
theorem QJ:OpR X (binaryOp .Mult) (rI Bu λi j=>.int (i*j)):=opI λ_ _ _ _ _ _ _ hc q=>mul_int q hc.ok
theorem cX:OpR X (binaryOp .FloorDiv) (rI QG λi j=>.int (i/j)):=opI λi j _ _ _ _ _ hc q=>by
 have h1:(0:Int)<j:=hc.1;have h2:j<1073741824:=hc.2;exact floordiv_int (by omega) (by rw[Int.fdiv_eq_ediv_of_nonneg i (by omega)];exact q) (.inl (PyProof.noPylong_small (by omega)))
theorem cH:OpR X (binaryOp .Mod) (rI (λ_ j=>0<j) λi j=>.int (i%j)):=opI λi j _ _ _ _ _ hc q=>by
 have h1:(0:Int)<j:=hc;exact mod_int' (by omega) (by rw[Int.fmod_eq_emod_of_nonneg i (by omega)];exact q)
theorem qW:OpR X (binaryOp .Pow) (rI IW λi j=>.int (i^j.toNat)):=opI λ_ _ _ _ _ _ _ hc q=>pow_int_small hc.1 hc.2.1 hc.2.2 q
theorem Ja:OpR X (binaryOp .LShift) (rI IW λi j=>.int (i*2^j.toNat)):=opI λ_ _ _ _ _ _ _ hc q=>lshift_int_small hc.1 hc.2.1 hc.2.2 q
theorem PQ:OpR X (binaryOp .BitOr) (rI0 λi j=>.int (Builtin.bitOr i j)):=Su λ_ _ _ _ _ _ _ q=>or_int q
end
section
variable{X:Cx}{a b c:Expr}{ta tb:TE}{pos:Pos}
theorem Bv{pins:List (Addr×Obj)}{σ:St}{H:Hp}{s:Shared}{Q:VK}{k k':Bool}(I:Inv X pins σ H s)(q:Q (.bl k) H)(e:k=k'):EP X pins σ Q (.bool k') s:=by
 subst e;exact⟨.bl k,H,I,rfl,q⟩
theorem Sx:OpR X (compareOp .Lt) (rI0 λi j=>.bl (decide (i<j))):=Sv λ_ _ _ _ _ _ _ q=>lt_int q
theorem Sy:OpR X (compareOp .GtE) (rI0 λi j=>.bl (decide (j<=i))):=Sv λ_ _ _ _ _ _ _ q=>ge_int q
theorem GD:OpR X (compareOp .Lt) (λx y H Q=>∃ i j,x=.str i/\y=.str j/\Q (.bl (decide (i.cps.toList<j.cps.toList))) H):=by
 intro pins s σ H x y v u Q I rx ry h;obtain⟨i,j,rfl,rfl,q⟩:=h;obtain⟨t,rfl⟩:=rx;obtain⟨t',rfl⟩:=ry;exact lt_str (Bv I q rfl)
theorem GF:OpR X (compareOp .In) (λx y H Q=>∃ i j,x=.str i/\y=.str j/\Q (.bl (!(Builtin.Str.occurrences j i 0 j.length 1).isEmpty)) H):=by
 intro pins s σ H x y v u Q I rx ry h;obtain⟨i,j,rfl,rfl,q⟩:=h;obtain⟨t,rfl⟩:=rx;obtain⟨t',rfl⟩:=ry;exact in_str (Bv I q rfl)
theorem wY:OpR X (compareOp .NotIn) (λx y H Q=>∃ i j,x=.str i/\y=.str j/\Q (.bl (!(!(Builtin.Str.occurrences j i 0 j.length 1).isEmpty))) H):=by
 intro pins s σ H x y v u Q I rx ry h;obtain⟨i,j,rfl,rfl,q⟩:=h;obtain⟨t,rfl⟩:=rx;obtain⟨t',rfl⟩:=ry;exact notIn_str (Bv I q rfl)
theorem OpR.or{f:Value->Value->Sem Value}{r r':R2}(h:OpR X f r)(h':OpR X f r'):OpR X f (λx y H Q=>r x y H Q\/r' x y H Q):=by
 intro pins s σ H x y v u Q I rx ry q;rcases q with q|q
 ·exact h pins s σ H x y v u Q I rx ry q
 ·exact h' pins s σ H x y v u Q I rx ry q
theorem fJ(b:Expr){op:CmpOp}(h:op≠.In:=by decide)(h2:op≠.NotIn:=by decide):behindInMarks op b=false:=by
 have e1:(op==CmpOp.In)=false:=by cases op<;>first|rfl|exact absurd rfl h
 have e2:(op==CmpOp.NotIn)=false:=by cases op<;>first|rfl|exact absurd rfl h2
 cases b<;>simp[behindInMarks,e1,e2]
theorem wZ{op:CmpOp}{r:R2}(ho:OpR X (compareOp op) r)(ha:PE X a ta)(hb:PE X b tb)(hm:behindInMarks op b=false):PE X (.Compare a [op] [b] pos) (tOp r ta tb):=by
 intro pins s σ H Q I h;exact wpAny_Compare1 (QF ha hb I h λv u s2 x y H2 I2 rx ry q=>ho pins s2 σ H2 x y v u Q I2 rx ry q) hm
def Qa(t:TE):TT:=λσ H Q=>t σ H λx H'=>∃ k,x=.bl k/\Q k H'
theorem cY{op:CmpOp}{r:R2}(ho:OpR X (compareOp op) r)(ha:PE X a ta)(hb:PE X b tb)(hm:behindInMarks op b=false):PT X (.Compare a [op] [b] pos) (Qa (tOp r ta tb)):=by
 intro pins s σ H Q I h;refine wpAny_isTrue_Compare1 (thn (ha pins s σ H _ I h) λv s1 ⟨x,H1,I1,r1,q1⟩=>thn (hb pins s1 σ H1 _ I1 q1) λu s2 ⟨y,H2,I2,r2,q2⟩=>
  thn (ho pins s2 σ H2 x y v u _ I2 r1 r2 q2) λc s3 ⟨z,H3,I3,r3,k,e,q3⟩=>?_) hm
 subst e;cases r3;exact wpAny_truthy_bool ⟨H3,I3,q3⟩
theorem w5:(sizeLine:Nat)<2^63:=by rw[sizeLine_eq];decide
theorem Bw:OpR X (binaryOp .Add) (λx y H Q=>∃ i j,x=.str i/\y=.str j/\i.length+j.length<=sizeLine/\Q (.str (i++j)) H):=by
 intro pins s σ H x y v u Q I rx ry h;obtain⟨i,j,rfl,rfl,hz,q⟩:=h;obtain⟨t,rfl⟩:=rx;obtain⟨t',rfl⟩:=ry;exact add_str (λt' tk=>⟨.str (i++j),H,I.tok _,⟨_,rfl⟩,q⟩) hz
theorem vals1{x:V}{us:List Value}(r:Vals [x] us):∃ u,us=[u]/\RelV x u:=by
 cases r with
 |cons r1 r2=>cases r2;exact⟨_,rfl,r1⟩
theorem yQ:fL X (.builtin "abs") (λxs H Q=>∃ i,xs=[.int i]/\Q (.int (if i<0 then -i else i)) H):=by
 intro pins s σ H xs us Q I r h;obtain⟨i,rfl,q⟩:=h;obtain⟨u,rfl,t,rfl⟩:=vals1 r;exact call_abs_int λu tk=>⟨.int (if i<0 then -i else i),H,I.tok _,⟨_,rfl⟩,q⟩
theorem GJ:fL X (.type "int") (λxs H Q=>(∃ i,xs=[.int i]/\Q (.int i) H)\/∃ k,xs=[.bl k]/\Q (.int (if k then 1 else 0)) H):=by
 intro pins s σ H xs us Q I r h;rcases h with⟨i,rfl,q⟩|⟨k,rfl,q⟩
 ·obtain⟨u,rfl,t,rfl⟩:=vals1 r;exact call_int_int ⟨.int i,H,I,⟨_,rfl⟩,q⟩
 ·obtain⟨u,rfl,r1⟩:=vals1 r;cases r1;exact call_int_bool ⟨.int (if k then 1 else 0),H,I.tok _,⟨_,rfl⟩,q⟩
def SJ(K:Frag)(x:V)(H:Hp)(n:Nat):Prop:=
 match x with
 |.str y=>y.length<=sizeLine/\n=y.length
 |.byt y=>y.size<=sizeLine/\n=y.size
 |.ref p=>(∃ xs,SqL K H p xs/\n=xs.length)\/∃ xs,SqT K H p xs/\n=xs.length
 |_=>False
theorem cu:fL X (.builtin "len") (λxs H Q=>∃ x n,xs=[x]/\SJ X.K x H n/\Q (.int n) H):=by
 intro pins s σ H xs us Q I r h;obtain⟨x,n,rfl,e,q⟩:=h;obtain⟨u,rfl,rx⟩:=vals1 r;have hl:=w5;have hs:sizeLine=16777216:=sizeLine_eq;cases x with
 |str y=>
  obtain⟨t,rfl⟩:=rx;obtain⟨hy,e'⟩:y.length<=sizeLine/\n=y.length:=e;subst e';exact len_str (by lia) ⟨.int _,H,I.tok _,⟨_,rfl⟩,q⟩
 |byt y=>
  obtain⟨t,rfl⟩:=rx;obtain⟨hy,e'⟩:y.size<=sizeLine/\n=y.size:=e;subst e';exact PySem.W.len_bytes (by lia) ⟨.int _,H,I.tok _,⟨_,rfl⟩,q⟩
 |ref p=>
  cases rx;have e':(∃ xs,SqL X.K H p xs/\n=xs.length)\/∃ xs,SqT X.K H p xs/\n=xs.length:=e;rcases e' with⟨xs,hx,e'⟩|⟨xs,hx,e'⟩
  ·subst e';obtain⟨its,r',pl,hz⟩:=I.list hx;have hlen:=r'.length;exact Calls.call_len_list pl.isList (by simp only[List.size_toArray];lia) ⟨.int xs.length,H,I.tok _,⟨_,by simp only[List.size_toArray];rw[hlen]⟩,q⟩
  ·subst e';obtain⟨its,r',pl,hz⟩:=I.tuple hx;have hlen:=r'.length;exact len_tuple pl (by simp only[List.size_toArray];lia) ⟨.int xs.length,H,I.tok _,⟨_,by simp only[List.size_toArray];rw[hlen]⟩,q⟩
 |_=>exact(show False from e).elim
end
theorem qQ.some_of{v:V}{o:Option Value}(r:qQ (some v) o):∃ u,o=some u/\RelV v u:=by
 cases o with
 |none=>exact(show False from r).elim
 |some u=>exact⟨u,rfl,r⟩
structure dN(k:Nat)(A:Around):Prop where
 hd:A.handled=none
 dp:A.depth+3*k+5<recursionLimit
 un:A.units+16*k+200<cLine
theorem dN.mono{j k:Nat}{A:Around}(r:dN k A)(h:j<=k):dN j A:=⟨r.hd,by have:=r.dp;lia,by have:=r.un;lia⟩
theorem dN.deeper{k:Nat}{A:Around}(r:dN (k+1) A)(env:Env):dN k (A.deeper env):=
 ⟨r.hd,by have:=r.dp;show A.depth+1+3*k+5<_;lia,by have:=r.un;show A.units+3+16*k+200<_;lia⟩
theorem dN.in1{k:Nat}{A:Around}(r:dN (k+1) A):dN k A.in1:=
 ⟨r.hd,by have:=r.dp;show A.depth+3*k+5<_;omega,by have:=r.un;show A.units+1+16*k+200<_;omega⟩
theorem dN.depth{k:Nat}{A:Around}(r:dN k A):A.depth<recursionLimit:=by have:=r.dp;omega
theorem dN.units{k:Nat}{A:Around}(r:dN k A):A.units+64<cLine:=by have:=r.un;omega
def pK:TA:=λ_ H Q=>Q [] H
def jk(ta:TE)(tr:TA):TA:=λσ H Q=>ta σ H λx H1=>tr σ H1 λxs H2=>Q (x::xs) H2
section
variable{X:Cx}{e:Expr}{es:List Expr}{te:TE}{t:TA}{pos:Pos}
theorem au:PA X [] pK:=λ_ _ _ _ H Q I h=>Calls.spliced_nil ⟨[],H,I,.nil,h⟩
theorem aj(ha:PE X e te)(hr:PA X es t)(hs:starEach (e::es) X.env=(false,eval e X.env)::starEach es X.env:=by rfl):PA X (e::es) (jk te t):=by
 intro pos pins s σ H Q I h;rw[hs];show wpAny _ _ (spliced ((false,eval e X.env)::backTo pos (starEach es X.env))) _ _ s
 refine Calls.spliced_cons (thn (ha pins s σ H _ I h) ?_);rintro u s1 ⟨x,H1,I1,r1,q1⟩;exact thn (hr pos pins s1 σ H1 _ I1 q1) λus s2 ⟨xs,H2,I2,r2,q2⟩=>⟨x::xs,H2,I2,.cons r1 r2,q2⟩
def SM(t:TA):TE:=λσ H Q=>t σ H λxs H1=>xs.length<=sizeLine/\∀ p,H1 p=none->Q (.ref p) (upd H1 p (.tup xs))
def QK(t:TA):TE:=λσ H Q=>t σ H λxs H1=>xs.length<=sizeLine/\∀ p,H1 p=none->Q (.ref p) (upd H1 p (.lst xs))
theorem gh{x1}(h:PA X es t):PE X (.Tuple es x1 pos) (SM t):=by
 intro pins s σ H Q I hq;refine wpAny_Tuple_spliced (thn (h pos pins s σ H _ I hq) λus s1 ⟨xs,H1,I1,r,z,q⟩=>⟨by rw[<-r.length];exact z,?_⟩)
 have hf:H1 s1.heap.objs.size=none:=I1.hok.fresh (Zaf _);refine⟨.ref s1.heap.objs.size,upd H1 s1.heap.objs.size (.tup xs),I1.laid (t':=s1.toks) (λb u e=>Zac _ e) (Zaf _) ?_,rfl,q _ hf⟩;exact⟨z,us,r,fu.mk (Zam _ rfl)⟩
theorem j6(h:PA X es t):PE X (.List es pos) (QK t):=by
 intro pins s σ H Q I hq;refine wpAny_List_spliced (thn (h pos pins s σ H _ I hq) λus s1 ⟨xs,H1,I1,r,z,q⟩=>⟨by rw[<-r.length];exact z,?_⟩)
 have hf:H1 s1.heap.objs.size=none:=I1.hok.fresh (Zaf _);refine⟨.ref s1.heap.objs.size,upd H1 s1.heap.objs.size (.lst xs),I1.laid (t':=s1.toks) (λb u e=>Zac _ e) (Zaf _) ?_,rfl,q _ hf⟩;exact⟨z,us,0,r,Zam _ rfl⟩
end
noncomputable abbrev Sp:=List V->Hp->VK->XK->Prop
noncomputable abbrev CXT:=List Env->Hp->Shared->XK->Value->Shared->Prop
structure Mq(P:Program)(w:World)(K:Frag)(mg:Str->Option Value)(base:Heap)(A:Around)(outer:List Env)(s:Shared)(H:Hp):Prop where
 frames:A.frames=some outer
 mod:Mod K mg base
 bs:∀ b o,base.get? b=some o->s.heap.get? b=some o/\H b=none
 bsz:base.objs.size<=s.heap.objs.size
 pI:s.heap.FunFrames base outer
 frf:∀ b∈frs outer,H b=none
 hok:HOk P w H s.heap
 bare:AllBare s.gens
def CE(outer:List Env)(P:Program)(w:World)(H:Hp)(s:Shared)(Q:VK)(u:Value)(s':Shared):Prop:=
 ∃ v H',s'.os=s.os/\AllBare s'.gens/\Un (frs outer) [] H H' s.heap s'.heap/\HOk P w H' s'.heap/\RelV v u/\Q v H'
def CR(CX:CXT)(outer:List Env)(P:Program)(w:World)(H:Hp)(s:Shared)(Q:VK)(E:XK)(r:Result)(s':Shared):Prop:=
 match r with
 |.ok (.ret u)=>CE outer P w H s Q u s'
 |.ok _=>False
 |.error e=>CX outer H s E e s'
structure vf(P:Program)(w:World)(K:Frag)(mg:Str->Option Value)(base:Heap)(CX:CXT)(k:Nat)(f:Addr)(fd:FuncData)(ps:List Str)(sp:Sp):Prop where
 len:∀ vs H Q E,sp vs H Q E->vs.length=ps.length
 run:∀ (A:Around) (outer:List Env) (s:Shared) (H:Hp) (args:Args) (us:List Value) (vs:List V) (Q:VK) (E:XK),dN k A->Mq P w K mg base A outer s H->BindsTo s fd args (ps.zip us)->Vals vs us->sp vs H Q E ->
  codeAny (model P w) A (.call (.ref f) args) (CR CX outer P w H s Q E) s
section
variable{X:Cx}{pins:List (Addr×Obj)}{σ:St}{H:Hp}{s s':Shared}
theorem Inv.env0(I:Inv X pins σ H s):Mq X.prog X.w X.K X.mg X.base X.A X.stack s H:=
 ⟨I.ok.frames,I.ok.mod,I.bs,ZaX I.ok.bsz I.sz,I.stack,I.Ea,I.hok,I.bare⟩
theorem Inv.after{Q:VK}{u:Value}(I:Inv X pins σ H s)(h:CE X.stack X.prog X.w H s Q u s'):EP X pins σ Q u s':=by
 obtain⟨v,H',os,bare,un,hok,r,q⟩:=h;obtain⟨hh,g,d,t,os'⟩:=s';obtain rfl:os'=s.os:=os;exact⟨v,H',I.call (h':=hh) (g':=g) (d':=d) (t':=t) (ch:=[]) un hok bare (λb z=>absurd z (by simp)),r,q⟩
end
def vM(sp:Sp)(dvs:List V)(E:XK)(t:TA):TE:=λσ H Q=>t σ H λvs H1=>sp (vs++dvs) H1 Q E
def Binds(K:Frag)(fd:FuncData)(ps:List Str)(ds:List Value):Prop:=
 ∀ (s:Shared) (us:List Value),K.In s.heap->(us++ds).length=ps.length->BindsTo s fd ⟨us,[]⟩ (ps.zip (us++ds))
theorem Binds.all{K:Frag}{fd:FuncData}{ps:List Str}(h:∀ us:List Value,us.length=ps.length->bindArgs fd ⟨us,[]⟩=pure (ps.zip us)):Binds K fd ps []:=λs us _ hl=>by
 rw[ZaS] at hl ⊢;exact .of_eq (h us hl)
def Bx(CX:CXT)(X:Cx)(E:XK):Prop:=∀ (pins:List (Addr×Obj)) (σ:St) (H:Hp) (s:Shared) (e:Value) (s':Shared),Inv X pins σ H s->CX X.stack H s E e s'->X.xe e s'
section
variable{X:Cx}{CX:CXT}{k:Nat}{f:Addr}{fd:FuncData}{ps:List Str}{sp:Sp}{dvs:List V}{ds:List Value}{E:XK}{x:Str}{p pos:Pos}{e:Expr}{es:List Expr}{t:TA}
theorem Jb{pins:List (Addr×Obj)}{σ:St}{H:Hp}{s:Shared}{Q:VK}{us:List Value}{vs:List V}(F:vf X.prog X.w X.K X.mg X.base CX k f fd ps sp)(hr:dN k X.A)(hb:Binds X.K fd ps ds)(hd:Vals dvs ds)(hx:Bx CX X E)
  (I:Inv X pins σ H s)(r:Vals vs us)(h:sp (vs++dvs) H Q E):wpAny (model X.prog X.w) X.A (call (.ref f) us) (EP X pins σ Q) X.xe s:=by
 have r2:Vals (vs++dvs) (us++ds):=r.append hd;have hl:(us++ds).length=ps.length:=by rw[<-r2.length];exact F.len _ _ _ _ h
 refine wpAny_call (codeAny_mono (F.run X.A X.stack s H ⟨us,[]⟩ (us++ds) (vs++dvs) Q E hr I.env0 (hb s us I.kIn hl) r2 h) λr s' hq=>?_);cases r with
 |error e=>exact hx pins σ H s e s' I hq
 |ok fl=>
  cases fl with
  |ret u=>exact I.after hq
  |next=>exact False.elim hq
  |brk=>exact False.elim hq
  |cont=>exact False.elim hq
theorem Mr(F:vf X.prog X.w X.K X.mg X.base CX k f fd ps sp)(hr:dN k X.A)(hg:Gl X x)(hm:X.mg x=some (.ref f))(hk:keepIn X.K (.ref f)=true)(hb:Binds X.K fd ps ds)(hd:Vals dvs ds)(hx:Bx CX X E)
  (ha:PA X (e::es) t)(hdb:(x==("__debug__":Str))=false:=by decide)(he:starEach (e::es) X.env=(false,eval e X.env)::starEach es X.env:=by rfl)(hpl:(backTo pos (starEach es X.env)).any (·.1)=false:=by rfl) :
  PE X (.Call (.Name x p) (e::es) [] pos) (vM sp dvs E t):=by
 intro pins s σ H Q I h;refine wpAny_Call_Name_kw (Ec I hg hm ?_ hdb);refine PySem.W.callWith_K (h₀:=X.base) I.ok.mod.kin hk (thn (ha pos pins s σ H _ I h) λus s1 ⟨vs,H1,I1,r,q⟩=>⟨I1.kIn,?_⟩) he hpl;exact Jb F hr hb hd hx I1 r q
end
structure bN(N P:List Str)(sc:Scope):Prop where
 kind:sc.kind=.function
 co:sc.isCoroutine=false
 gen:sc.isGenerator=false
 nd:N.Nodup
 pre:N.take P.length=P
 par:∀ x∈P,sc.names.lookup x=some .local\/sc.names.lookup x=some .cell
 nofree:∀ y∈sc.names,y.2≠.free
theorem vN{kindOf:Str->Option NameKind}{x:Str}:∀ {binds:List (Str×Value)}{m:Str->Option Value},(∀ v,(x,v) ∉ binds)->bindL kindOf binds m x=m x
 |[],_,_=>rfl
 |(n,v)::r,m,h=>by
  unfold bindL;rw[vN λw hw=>h w (List.mem_cons_of_mem _ hw)];split
  ·have:x≠n:=by rintro rfl;exact h v List.mem_cons_self
   simp[this]
  ·rfl
theorem vO{kindOf:Str->Option NameKind}{x:Str}:∀ {binds:List (Str×Value)}{m:Str->Option Value},(∀ v,(x,v) ∉ binds)->bindC kindOf binds m x=m x
 |[],_,_=>rfl
 |(n,v)::r,m,h=>by
  unfold bindC;rw[vO λw hw=>h w (List.mem_cons_of_mem _ hw)];split
  ·rfl
  ·have:x≠n:=by rintro rfl;exact h v List.mem_cons_self
   simp[this]
theorem vP{kindOf:Str->Option NameKind}{x:Str}{v:Value}:∀ {P:List Str}{vs:List Value}{i:Nat}{m:Str->Option Value},P.Nodup->P[i]?=some x->vs[i]?=some v->kindOf x=some .local ->
  bindL kindOf (P.zip vs) m x=some v
 |[],_,_,_,_,h,_,_=>by simp at h
 |_::_,[],_,_,_,_,h,_=>by simp at h
 |p::P,w::vs,0,m,nd,h1,h2,hk=>by
  simp at h1 h2;subst h1;subst h2;show bindL kindOf ((p,w)::P.zip vs) m p=_
  unfold bindL;rw[vN λv hv=>(Zbg.mp nd).1 (List.of_mem_zip hv).1,Zal hk];simp
 |p::P,w::vs,i+1,m,nd,h1,h2,hk=>by
  show bindL kindOf ((p,w)::P.zip vs) m x=_
  unfold bindL;exact vP (i:=i) (Zbg.mp nd).2 (by simpa using h1) (by simpa using h2) hk
theorem vQ{kindOf:Str->Option NameKind}{x:Str}{v:Value}:∀ {P:List Str}{vs:List Value}{i:Nat}{m:Str->Option Value},P.Nodup->P[i]?=some x->vs[i]?=some v->kindOf x≠some .local ->
  bindC kindOf (P.zip vs) m x=some v
 |[],_,_,_,_,h,_,_=>by simp at h
 |_::_,[],_,_,_,_,h,_=>by simp at h
 |p::P,w::vs,0,m,nd,h1,h2,hk=>by
  simp at h1 h2;subst h1;subst h2;show bindC kindOf ((p,w)::P.zip vs) m p=_
  unfold bindC;rw[vO λv hv=>(Zbg.mp nd).1 (List.of_mem_zip hv).1,Zak hk];simp
 |p::P,w::vs,i+1,m,nd,h1,h2,hk=>by
  show bindC kindOf ((p,w)::P.zip vs) m x=_
  unfold bindC;exact vQ (i:=i) (Zbg.mp nd).2 (by simpa using h1) (by simpa using h2) hk
def start(N:List Str)(vs:List V):St:=vs.map some++List.replicate (N.length-vs.length) none
def By(CX:CXT)(P:Program)(w:World)(K:Frag)(mg:Str->Option Value)(base:Heap)(N:List Str)(qual:Str)(scope:Scope)(f:Addr)(cd:Value)(A:Around)(outer:List Env)(s:Shared)(H:Hp)(E:XK):Cx where
 prog:=P
 w:=w
 K:=K
 mg:=mg
 base:=base
 A:=A.deeper (envOfC qual scope s.heap.objs.size f cd)
 N:=N
 s₀:=s
 H₀:=H
 env:=envOfC qual scope s.heap.objs.size f cd
 outer:=outer
 stack:=envOfC qual scope s.heap.objs.size f cd::outer
 ex:=[]
 calm:=true
 fn:=λ_=>true
 pn:=[]
 xe:=λe s'=>wpAny (model P w) (A.deeper (envOfC qual scope s.heap.objs.size f cd)) (leaving (envOfC qual scope s.heap.objs.size f cd) e) (λ_ s''=>CX outer H s E e s'') (λe' s''=>CX outer H s E e' s'') s'
theorem yR{sc:Scope}{n:Nat}{x:Str}(h:sc.names.lookup x=some .cell):∃ c,(cellsFrom n sc.names []).lookup x=some c:=by
 have q:=PySem.W.cellsFrom_some sc.names n [] (.inl h);exact Option.isSome_iff_exists.mp q
theorem GK{CX:CXT}{P:Program}{w:World}{K:Frag}{mg:Str->Option Value}{base:Heap}{N ps:List Str}{qual:Str}{scope:Scope}{f:Addr}{cd:Value}{A:Around}{outer:List Env}{s s1:Shared}{H:Hp}{E:XK}{us:List Value}{vs:List V}
  (S:bN N ps scope)(hd:A.handled=none)(e0:Mq P w K mg base A outer s H)(hl:vs.length=ps.length)(r:Vals vs us)
  (x:InCallC s s.heap.objs.size (bindL (envOfC qual scope s.heap.objs.size f cd).kindOf (ps.zip us) λ_=>none) (cellsFrom (s.heap.objs.size+1) scope.names []) (bindC (envOfC qual scope s.heap.objs.size f cd).kindOf (ps.zip us) λ_=>none) s1) :
  Inv (By CX P w K mg base N qual scope f cd A outer s H E) [] (start N vs) H s1:=by
 have hpl:ps.length<=N.length:=by have:=ZbI List.length S.pre;rw[Zbw] at this;lia
 obtain⟨h1,tk,rfl,hk⟩:=x.done;have noA:∀ b:Addr,b ∉ (By CX P w K mg base N qual scope f cd A outer s H E).ex:=λb z=>absurd (show b∈([]:List Addr) from z) (by simp)
 refine⟨⟨e0.mod,S.kind,rfl,rfl,Zaf _,λy z c h1 h2=>?_,λy hy=>?_,λy c _ h=>?_,λ_=>hd,Around.frames_deeper e0.frames,.inr ⟨rfl,rfl⟩,λb z=>absurd z (noA b),e0.bs,e0.bsz,λb _ _=>noA b,λb z=>absurd z (noA b),e0.pI,e0.frf⟩,
  rfl,e0.bare,Un.kept hk,⟨_,x.toInCall.ns,λi y v h1 h2 h3=>?_⟩,λy c h=>⟨_,x.cell y c h⟩,e0.hok.fresh (Zaf _),λy c h=>?_,λp hp=>absurd (show p∈([]:List (Addr×Obj)) from hp) (by simp),e0.hok.kept hk,?_⟩
 ·exact name_of_addr x.apart (ZbN h1) (ZbN h2)
 ·have hy:scope.names.lookup y=some .cell\/scope.names.lookup y=some .free:=hy;rcases hy with hy|hy
  ·exact yR hy
  ·exact absurd rfl (S.nofree _ (ZbN hy))
 ·exact ZaJ (x.above y c (ZbN h))
 ·have hi:i<vs.length:=by
   unfold start at h2;by_cases hi:i<vs.length
   ·exact hi
   ·rw[ZaG (by simpa using hi)] at h2
    rw[Zby] at h2;split at h2<;>cases h2
  have ha:vs[i]?=some v:=by
   unfold start at h2;rw[ZaF (by simpa using hi),Zae] at h2
   cases e:vs[i]? with
   |none=>rw[e] at h2;cases h2
   |some a=>rw[e] at h2;cases h2;rfl
  obtain⟨u,hu,rv⟩:=r.get ha;have hp:ps[i]?=some y:=by
   rw[<-S.pre,List.getElem?_take_of_lt (by lia)];exact h1
  have ndP:ps.Nodup:=by rw[<-S.pre];exact S.nd.sublist (ZaU _ _)
  refine⟨u,rv,?_⟩;rcases S.par y (ZaE hp) with k|k
  ·exact .inl ⟨k,vP ndP hp hu k⟩
  ·obtain⟨c,e⟩:=yR (n:=s.heap.objs.size+1) k;refine .inr ⟨.inl k,c,e,?_⟩;have q:=x.cell y c e;rw[vQ ndP hp hu (by show scope.names.lookup y≠_;rw[k];decide)] at q
   exact q
 ·exact e0.hok.fresh (ZaJ (x.above y c (ZbN h)))
 ·unfold start;show _=N.length
  rw[List.length_append,List.length_map,List.length_replicate];lia
theorem SN{CX:CXT}{P:Program}{w:World}{K:Frag}{mg:Str->Option Value}{base:Heap}{k:Nat}{f:Addr}{name qual:Str}{params:Arguments}{body:List Stmt}{scope:Scope}{dV kV doc pm cdv ct oc:Value}{an od:Option Addr}
  {osl:Array (Option Value)}{N ps:List Str}{sp:Sp}(lk:K.lookup f=some ⟨oc,od,.func (fnOf name qual params body scope dV kV doc pm an cdv ct),osl⟩)(hcd:codeIn K cdv qual=true)(S:bN N ps scope)
  (len:∀ vs H Q E,sp vs H Q E->vs.length=ps.length)
  (hbody:∀ (A:Around) (outer:List Env) (s:Shared) (H:Hp) (vs:List V) (Q:VK) (E:XK),dN k (A.deeper (envOfC qual scope s.heap.objs.size f cdv))->sp vs H Q E ->
   ∃ t,PSs (By CX P w K mg base N qual scope f cdv A outer s H E) body t/\t { nx:=λ_ H'=>Q .non H',rt:=Q } (start N vs) H) :
  vf P w K mg base CX (k+1) f (fnOf name qual params body scope dV kV doc pm an cdv ct) ps sp:=by
 refine⟨len,λA outer s H args us vs Q E hr e0 hb r hsp=>?_⟩;have hl:=len _ _ _ _ hsp;have KX:K.In s.heap:=e0.mod.kin.keeps λb o e=>(e0.bs b o e).1;have lim:s.heap.NoLimit:=e0.mod.nolimit.keeps λb o e=>(e0.bs b o e).1;have hkind:∀ y∈ps.zip us,scope.names.lookup y.1=some .local\/(scope.names.lookup y.1=some .cell/\((cellsFrom (s.heap.objs.size+1) scope.names []).lookup y.1).isSome=true):=λ⟨n,v⟩ hy=>by
  rcases S.par n (List.of_mem_zip hy).1 with q|q
  ·exact .inl q
  ·exact .inr ⟨q,PySem.W.cellsFrom_some _ _ _ (.inl q)⟩
 refine codeAny_call_function hr.depth (KX _ _ lk) rfl S.co S.gen rfl (PySem.W.codeRec_of KX hcd) (hb _ _ _ _ ?_);refine wpAny_newFunctionEnv_cells S.kind hkind λenv he s1 x=>?_;subst he;refine⟨lim.keeps x.toInCall.keep,codeAny_func ?_⟩;obtain⟨t,ht,hq⟩:=hbody A outer s H vs Q E (hr.deeper _) hsp;have I:Inv (By CX P w K mg base N qual scope f cdv A outer s H E) [] (start N vs) H s1:=GK S hr.hd e0 hl r x;refine Zbl (ht [] s1 (start N vs) H _ I hq) (λfl s' hs=>?_) λe s' hs=>hs;have fin:∀ {σ':St}{H':Hp}{v:V}{u:Value},Inv (By CX P w K mg base N qual scope f cdv A outer s H E) [] σ' H' s'->RelV v u->Q v H'->CE outer P w H s Q u s':=
  λ{σ' H' v u} J rv q=>⟨v,H',J.os,J.bare,J.base,J.hok,rv,q⟩
 cases fl with
 |ret u=>
  obtain⟨v,σ',H',J,rv,q⟩:=hs;exact fin J rv q
 |next=>
  obtain⟨σ',H',J,q⟩:=hs;exact fin (v:=V.non) (u:=Value.none) J rfl q
 |brk=>
  obtain⟨_,_,_,q⟩:=hs;exact False.elim q
 |cont=>
  obtain⟨_,_,_,q⟩:=hs;exact False.elim q
section
variable{X:Cx}{x:Str}{p pos:Pos}{e:Expr}{es:List Expr}{t:TA}{id T:String}{r:List V->Hp->VK->Prop}
def tCB(r:List V->Hp->VK->Prop)(t:TA):TE:=λσ H Q=>t σ H λvs H1=>r vs H1 Q
theorem bh(hc:fL X (.builtin id) r)(hg:Gl X x)(hm:X.mg x=none)(hv:bootBuiltins x=some (.builtin id))(ha:PA X (e::es) t)(hn:x≠"__name__":=by decide)(hdb:(x==("__debug__":Str))=false:=by decide)
  (he:starEach (e::es) X.env=(false,eval e X.env)::starEach es X.env:=by rfl)(hpl:(backTo pos (starEach es X.env)).any (·.1)=false:=by rfl):PE X (.Call (.Name x p) (e::es) [] pos) (tCB r t):=by
 intro pins s σ H Q I h;refine wpAny_Call_Name_kw (qT I hg hm hv ?_ hn hdb);exact PyProof.Rows.callWith_builtin1 (thn (ha pos pins s σ H _ I h) λus s1 ⟨vs,H1,I1,r1,q1⟩=>hc pins s1 σ H1 vs us Q I1 r1 q1) he hpl
theorem eN(hc:fL X (.type T) r)(hg:Gl X x)(hm:X.mg x=none)(hv:bootBuiltins x=some (.type T))(ha:PA X (e::es) t)(hn:x≠"__name__":=by decide)(hdb:(x==("__debug__":Str))=false:=by decide)
  (he:starEach (e::es) X.env=(false,eval e X.env)::starEach es X.env:=by rfl)(hpl:(backTo pos (starEach es X.env)).any (·.1)=false:=by rfl):PE X (.Call (.Name x p) (e::es) [] pos) (tCB r t):=by
 intro pins s σ H Q I h;refine wpAny_Call_Name_kw (qT I hg hm hv ?_ hn hdb);exact PyProof.Rows.callWith_type1 (thn (ha pos pins s σ H _ I h) λus s1 ⟨vs,H1,I1,r1,q1⟩=>hc pins s1 σ H1 vs us Q I1 r1 q1) he hpl
end
end L2
namespace HT
open PySem PyProof.Rows
theorem Jc(A:Around)(s:Shared)(a:Int)(t:Tok)(c:Int)(u:Tok)(prog:Program)(w:World)(E:Value->Shared->Prop)(Q:Value->Shared->Prop)(h:Q (.bool (decide (a<c))) s) :
  wpAny (model prog w) A (richCompare .Lt (.int a t) (.int c u)) Q E s:=
 (PyProof.Rows.lt_int h:wpAny (model prog w) A (compareOp .Lt (.int a t) (.int c u)) Q E s)
section
variable{prog:Program}{w:World}{A:Around}{E:Value->Shared->Prop}{s:Shared}
theorem Ms{t b:Addr}{vs ws:List Value}{Q:Value->Shared->Prop}(ht:IsTup s.heap t vs.toArray)(hb:IsTup s.heap b ws.toArray)(hv:vs≠[])
  (h1:ws=[]->Q (.ref t) s)(h2:ws≠[]->Q (.ref s.heap.objs.size) { s with heap:=s.heap.push { cls:=.type "tuple",data:=.seq (vs++ws).toArray } })
  (hsz:vs.length+ws.length<=sizeLine):wpAny (model prog w) A (binaryOp .Add (.ref t) (.ref b)) Q E s:=by
 obtain⟨⟨cls,dd,data,sl⟩,ho,hc,n,hd⟩:=id ht;obtain⟨⟨cls2,dd2,data2,sl2⟩,ho2,hc2,n2,hd2⟩:=id hb;simp only at hc hd hc2 hd2;subst hc hd hc2 hd2;have e:vs.toArray++ws.toArray=(vs++ws).toArray:=by simp
 by_cases hw:ws=[]
 ·exact concat_meets ⟨_,ho,rfl⟩ ⟨_,ho2,rfl⟩ noFill_tuple_add seq_tuple_add PySem.F.slot_tuple_add PySem.F.entry_tuple_add (PySem.F.args_tuple_add_2 _ _)
   (tuple_addW1 t b vs.toArray ws.toArray n n2 dd dd2 sl sl2 (by simpa using hv) (by simp[hw])) ⟨ho,ho2,h1 hw⟩
 ·refine concat_meets ⟨_,ho,rfl⟩ ⟨_,ho2,rfl⟩ noFill_tuple_add seq_tuple_add PySem.F.slot_tuple_add PySem.F.entry_tuple_add (PySem.F.args_tuple_add_2 _ _)
   (tuple_addW2 t b vs.toArray ws.toArray n n2 dd dd2 sl sl2 (by simpa using hv) (by simpa using hw) (by rw[List.size_toArray,List.size_toArray];exact hsz)) ⟨ho,ho2,?_⟩
  rw[e];exact h2 hw
end
end HT
namespace L2
open PySem PySem.Spec PyProof.Rows
noncomputable abbrev TO:=St->Hp->(Option Int->Hp->Prop)->Prop
def PO(X:Cx)(e:Option Expr)(t:TO):Prop:=
 ∀ (pins:List (Addr×Obj)) (s:Shared) (σ:St) (H:Hp) (Q:Option Int->Hp->Prop),Inv X pins σ H s->t σ H Q ->
  wpAny (model X.prog X.w) X.A (evalPart e X.env) (λu s'=>∃ o H',Inv X pins σ H' s'/\IsPart u o/\Q o H') X.xe s
def Ed:TO:=λ_ H Q=>Q none H
def Qc(t:TE):TO:=λσ H Q=>t σ H λx H1=>∃ i,x=.int i/\Q (some i) H1
section
variable{X:Cx}{e:Expr}{te:TE}{lo hi:Option Expr}{tl th:TO}{pos p2:Pos}
theorem Ef:PO X none Ed:=by
 intro pins s σ H Q I h;rw[evalPart_none];exact Zaj ⟨none,H,I,.none,h⟩
theorem Eg(h:PE X e te):PO X (some e) (Qc te):=by
 intro pins s σ H Q I hw;rw[evalPart_some];refine thn (h pins s σ H _ I hw) ?_;rintro u s1 ⟨x,H1,I1,r1,q1⟩;obtain⟨i,rfl,q⟩:=q1;obtain⟨t,rfl⟩:=r1;exact⟨some i,H1,I1,.int i t,q⟩
def SlR(X:Cx)(r:V->Option Int->Option Int->Hp->VK->Prop):Prop:=
 ∀ (pins:List (Addr×Obj)) (s:Shared) (σ:St) (H:Hp) (x:V) (v vl vu:Value) (lo hi:Option Int) (sl:Addr) (Q:VK),Inv X pins σ H s->RelV x v->s.heap.IsSliceOf sl vl vu .none->IsPart vl lo->IsPart vu hi->r x lo hi H Q ->
  ∃ T id,typeLookup (.type T) "__getitem__"=pure (some (.builtin id))/\s.TypeIs v T/\wpAny (model X.prog X.w) X.A (getItem v (.ref sl)) (EP X pins σ Q) X.xe s
def tSl(r:V->Option Int->Option Int->Hp->VK->Prop)(te:TE)(tl th:TO):TE:=λσ H Q=>te σ H λx H1=>tl σ H1 λl H2=>th σ H2 λu H3=>r x l u H3 Q
theorem yS{r:V->Option Int->Option Int->Hp->VK->Prop}(hr:SlR X r)(he:PE X e te)(hl:PO X lo tl)(hu:PO X hi th):PE X (.Subscript e (.Slice lo hi none p2) pos) (tSl r te tl th):=by
 intro pins s σ H Q I h;refine Subscript_ (thn (he pins s σ H _ I h) ?_);rintro v s1 ⟨x,H1,I1,r1,q1⟩;refine wpAny_Slice (thn (hl pins s1 σ H1 _ I1 q1) λvl s2 ⟨l,H2,I2,pl,q2⟩=>thn (hu pins s2 σ H2 _ I2 q2) ?_);rintro vu s3 ⟨u,H3,I3,pu,q3⟩;rw[evalPart_none];refine Zaj ?_;have I4:Inv X pins σ H3 { s3 with heap:=s3.heap.push { cls:=.type "slice",data:=.fields #[vl,vu,.none] } }:=I3.kept (t':=s3.toks) λb ob q=>Zac _ q;obtain⟨T,id,hT,ht,hg⟩:=hr pins { s3 with heap:=s3.heap.push { cls:=.type "slice",data:=.fields #[vl,vu,.none] } } σ H3 x v vl vu l u s3.heap.objs.size Q I4 r1 (Heap.IsSliceOf.new ..) pl pu q3;show wpAny (model X.prog X.w) X.A (subscriptTail e (.Slice lo hi none p2) v (.ref s3.heap.objs.size)) (EP X pins σ Q) X.xe { s3 with heap:=s3.heap.push { cls:=.type "slice",data:=.fields #[vl,vu,.none] } }
 exact tail_any (ops:=[.ref s3.heap.objs.size,v]) ht hT hg (by with_unfolding_all rfl)
def Jd(K:Frag):R2:=λx y H Q=>∃ a b xs ys,x=.ref a/\y=.ref b/\SqT K H a xs/\SqT K H b ys/\xs≠[]/\xs.length+ys.length<=sizeLine /\
 (ys=[]->Q (.ref a) H)/\(ys≠[]->∀ p,H p=none->Q (.ref p) (upd H p (.tup (xs++ys))))
theorem Vals.sV{xs:List V}{us:List Value}(r:Vals xs us):us=[]↔xs=[]:=by
 cases r with
 |nil=>simp
 |cons _ _=>simp
theorem Eh:OpR X (binaryOp .Add) (Jd X.K):=by
 intro pins s σ H x y v u Q I rx ry h;obtain⟨a,b,xs,ys,rfl,rfl,ha,hb,hx,hz,q1,q2⟩:=h;cases rx;cases ry;obtain⟨its,r1,p1,_⟩:=I.tuple ha;obtain⟨its2,r2,p2,_⟩:=I.tuple hb;refine HT.Ms p1 p2 (λz=>hx (r1.sV.mp z)) (λz=>⟨.ref a,H,I,rfl,q1 (r2.sV.mp z)⟩) (λz=>?_) (by rw[<-r1.length,<-r2.length];exact hz)
 refine⟨.ref s.heap.objs.size,_,I.laid (t':=s.toks) (o:=.tup (xs++ys)) (λb ob q=>Zac _ q) (Zaf _) ?_,rfl,q2 (λw=>z (r2.sV.mpr w)) _ (I.hok.fresh (Zaf _))⟩;exact⟨by rw[List.length_append];exact hz,_,r1.append r2,fu.new _ _⟩
end
def ixN(n:Nat)(i:Int):Option Nat:=if 0<=i then(if i<n then some i.toNat else none) else if -(n:Int)<=i then some (i+n).toNat else none
def atI{α:Type}(xs:List α)(i:Int):Option α:=(ixN xs.length i).bind λj=>xs[j]?
theorem Mt{n:Nat}{i:Int}{j:Nat}(h:ixN n i=some j):seqIndex? i n=some j/\j<n/\-(n:Int)<=i/\i<n:=by
 unfold ixN at h;by_cases h0:0<=i
 ·rw[Zal h0] at h;by_cases h1:i<n
  ·rw[Zal h1] at h;have e:i.toNat=j:=Zah h;exact⟨by rw[seqIndex_of h0 h1,e],by lia,by lia,h1⟩
  ·rw[Zak h1] at h;cases h
 ·rw[Zak h0] at h;by_cases h1:-(n:Int)<=i
  ·rw[Zal h1] at h;have e:(i+n).toNat=j:=Zah h;exact⟨by rw[seqIndex_neg (by lia) h1,e],by lia,h1,by lia⟩
  ·rw[Zak h1] at h;cases h
theorem w6{α:Type}{xs:List α}{i:Int}{v:α}(h:atI xs i=some v):∃ j,seqIndex? i xs.length=some j/\xs[j]?=some v/\j<xs.length/\-(xs.length:Int)<=i/\i<xs.length:=by
 unfold atI at h;cases e:ixN xs.length i with
 |none=>rw[e] at h;cases h
 |some j=>
  rw[e] at h;obtain⟨h1,h2,h3,h4⟩:=Mt e;exact⟨j,h1,h,h2,h3,h4⟩
theorem gB{α:Type}{xs:List α}{j:Nat}{v:α}(h:xs[j]?=some v):atI xs (j:Int)=some v:=by
 have hj:j<xs.length:=(ZaB.mp h).1;have e:ixN xs.length (j:Int)=some j:=by
  unfold ixN;rw[Zal (by lia),Zal (by lia)];simp
 unfold atI;rw[e];exact h
def Mu(b:Expr):Prop:=∀ o i,subscripted b false o i=operate [o,i] (getItem o i)
def IxR(X:Cx)(r:R2):Prop:=
 ∀ (value slice:Expr) (pins:List (Addr×Obj)) (s:Shared) (σ:St) (H:Hp) (x y:V) (v u:Value) (Q:VK),Inv X pins σ H s->RelV x v->RelV y u->r x y H Q ->
  subscripted slice false v u=operate [v,u] (getItem v u)->wpAny (model X.prog X.w) X.A (subscriptTail value slice v u) (EP X pins σ Q) X.xe s
def MtR(X:Cx)(id:String)(r:V->List V->Hp->VK->Prop):Prop:=
 ∀ (pins:List (Addr×Obj)) (s:Shared) (σ:St) (H:Hp) (x:V) (xs:List V) (v:Value) (us:List Value) (Q:VK),Inv X pins σ H s->RelV x v->Vals xs us->r x xs H Q ->
  wpAny (model X.prog X.w) X.A (call (.builtin id) (v::us)) (EP X pins σ Q) X.xe s
section
variable{X:Cx}{a b:Expr}{ta tb:TE}{pos:Pos}
theorem IxR.or{r r':R2}(h:IxR X r)(h':IxR X r'):IxR X (λx y H Q=>r x y H Q\/r' x y H Q):=by
 intro value slice pins s σ H x y v u Q I rx ry q hs;rcases q with q|q
 ·exact h value slice pins s σ H x y v u Q I rx ry q hs
 ·exact h' value slice pins s σ H x y v u Q I rx ry q hs
theorem dR{r:R2}(hr:IxR X r)(ha:PE X a ta)(hb:PE X b tb)(hs:Mu b):PE X (.Subscript a b pos) (tOp r ta tb):=by
 intro pins s σ H Q I h;exact Subscript_ (QF ha hb I h λv u s2 x y H2 I2 rx ry q=>hr a b pins s2 σ H2 x y v u Q I2 rx ry q (hs _ _))
def SQ(K:Frag):R2:=λx y H Q=>∃ p xs i v,x=.ref p/\y=.int i/\SqL K H p xs/\atI xs i=some v/\Q v H
def SX(K:Frag):R2:=λx y H Q=>∃ p xs i v,x=.ref p/\y=.int i/\SqT K H p xs/\atI xs i=some v/\Q v H
def S8:R2:=λx y H Q=>∃ z i c,x=.str z/\y=.int i/\z.length<=sizeLine/\atI z.cps.toList i=some c/\Q (.str ⟨#[c]⟩) H
theorem Mv:IxR X (SQ X.K):=by
 intro value slice pins s σ H x y v u Q I rx ry h hs;obtain⟨p,xs,i,z,rfl,rfl,hq,he,q⟩:=h;cases rx;obtain⟨t,rfl⟩:=ry;obtain⟨its,r,pl,hz⟩:=I.list hq;obtain⟨j,h1,h2,h3,h4,h5⟩:=w6 he;obtain⟨w,ew,rw'⟩:=r.get h2;have hl:=r.length;have hn:=w5;have fin:EP X pins σ Q w s:=⟨z,H,I,rw',q⟩;by_cases h0:0<=i
 ·have hj:i.toNat=j:=by
   rw[seqIndex_of h0 h5] at h1;exact Zah h1
  exact item_listR pl.isList h0 (by lia) (by rw[hj];simpa using ew) fin hs
 ·have hj:(i+(its.toArray.size:Int)).toNat=j:=by
   rw[seqIndex_neg (by lia) h4] at h1
   rw[List.size_toArray,<-hl];exact Zah h1
  exact subscriptTail_builtinR (x:=w) pl.isList.typeIs slot_list_getitem.lookup
   (wpAny_getItem_list_neg (Q:=λr s'=>r=w/\EP X pins σ Q r s') pl.isList (by lia) (by rw[List.size_toArray]<;>lia) (by lia) (by rw[hj];simpa using ew) ⟨rfl,fin⟩) hs
theorem QL:IxR X (SX X.K):=by
 intro value slice pins s σ H x y v u Q I rx ry h hs;obtain⟨p,xs,i,z,rfl,rfl,hq,he,q⟩:=h;cases rx;obtain⟨t,rfl⟩:=ry;obtain⟨its,r,pl,hz⟩:=I.tuple hq;obtain⟨j,h1,h2,h3,h4,h5⟩:=w6 he;obtain⟨w,ew,rw'⟩:=r.get h2;have hl:=r.length;have hn:=w5;have fin:EP X pins σ Q w s:=⟨z,H,I,rw',q⟩;exact subscriptTail_builtinR (x:=w) pl.typeIs slot_tuple_getitem.lookup
  (getItem_tuple (j:=j) (Q:=λr s'=>r=w/\EP X pins σ Q r s') pl (by omega) (by omega) (by rw[List.size_toArray,<-hl];exact h1) (by simpa using ew) ⟨rfl,fin⟩) hs
theorem QM:IxR X S8:=by
 intro value slice pins s σ H x y v u Q I rx ry h hs;obtain⟨z,i,c,rfl,rfl,hz,he,q⟩:=h;obtain⟨t,rfl⟩:=rx;obtain⟨t',rfl⟩:=ry;obtain⟨j,h1,h2,h3,h4,h5⟩:=w6 he;have hl:z.cps.toList.length=z.length:=by simp[Str.length]
 rw[hl] at h1 h4 h5;have hn:=w5;exact tail_any (typeIs_str s z t) slot_str_getitem.lookup (getItem_str (c:=c) (by
  have e1:decide (i < -(2^63:Int))=false:=ZaH (by lia)
  have e2:decide (i>=2^63)=false:=ZaH (by lia)
  rw[e1,e2,Bool.or_false]) (by rw[h1];simpa using h2) ⟨.str ⟨#[c]⟩,H,I.tok _,⟨_,rfl⟩,q⟩) hs
def rIx(K:Frag):R2:=λx y H Q=>SQ K x y H Q\/SX K x y H Q\/S8 x y H Q
theorem cB:IxR X (rIx X.K):=Mv.or (QL.or QM)
def Ux:V->Bool
 |.non=>true
 |.bl _=>true
 |.int _=>true
 |.str _=>true
 |_=>false
def eqV:V->V->Bool
 |.non,.non=>true
 |.bl a,.bl b=>a==b
 |.bl a,.int b=>(if a then 1 else 0)==b
 |.int a,.bl b=>a==(if b then 1 else 0)
 |.int a,.int b=>a==b
 |.str a,.str b=>a==b
 |_,_=>false
theorem xf:fL X (.type "list") (λxs H Q=>∃ p ys,xs=[.ref p]/\(SqL X.K H p ys\/SqT X.K H p ys)/\∀ l,H l=none->Q (.ref l) (upd H l (.lst ys))):=by
 intro pins s σ H xs us Q I r h;obtain⟨p,ys,rfl,hq,q⟩:=h;obtain⟨u,rfl,rx⟩:=vals1 r;cases rx;have fin:∀ (its:List Value),Vals ys its->ys.length<=sizeLine->∀ (h':Heap) (c':Nat),(∀ b o',s.heap.get? b=some o'->h'.get? b=some o') ->
   h'.get? s.heap.objs.size=some { cls:=.type "list",dict:=none,data:=.seq its.toArray c',slots:=#[] }->EP X pins σ Q (.ref s.heap.objs.size) { s with heap:=h' }:=λits r' hz h' c' kp e=>
  ⟨.ref s.heap.objs.size,_,I.laid (t':=s.toks) kp (Zaf _) (show cL X.prog X.w _ h' _ (.lst ys) from⟨hz,its,c',r',e⟩),rfl,q _ (I.hok.fresh (Zaf _))⟩
 rcases hq with hq|hq
 ·obtain⟨its,r',pl,hz⟩:=I.list hq;have hlen:=r'.length;obtain⟨o,ho,hc,n,hd⟩:=pl.isList;exact call_list_seq p (.inl rfl) ho hc hd (λh' c' kp e=>fin its r' hz h' c' kp e) (by simp only[List.size_toArray]<;>omega)
 ·obtain⟨its,r',pl,hz⟩:=I.tuple hq;have hlen:=r'.length;obtain⟨o,ho,hc,n,hd⟩:=pl;exact call_list_seq p (.inr rfl) ho hc hd (λh' c' kp e=>fin its r' hz h' c' kp e) (by simp only[List.size_toArray]<;>omega)
theorem vg:fL X (.type "tuple") (λxs H Q=>∃ p ys,xs=[.ref p]/\((SqL X.K H p ys/\∀ l,H l=none->Q (.ref l) (upd H l (.tup ys)))\/(SqT X.K H p ys/\Q (.ref p) H))):=by
 intro pins s σ H xs us Q I r h;obtain⟨p,ys,rfl,h⟩:=h;obtain⟨u,rfl,rx⟩:=vals1 r;cases rx;rcases h with⟨hq,q⟩|⟨hq,q⟩
 ·obtain⟨its,r',pl,hz⟩:=I.list hq;have hlen:=r'.length;refine call_tuple_list pl.isList (λh' kp=>?_) (by simp only[List.size_toArray]<;>omega)
  have I1:Inv X pins σ H { s with heap:=h' }:=I.kept (t':=s.toks) kp;have I2:Inv X pins σ (upd H h'.objs.size (.tup ys)) { s with heap:=h'.push { cls:=.type "tuple",data:=.seq its.toArray } }:=
   I1.laid (t':=s.toks) (λb o e=>Zac _ e) (Zaf _) (show cL X.prog X.w _ _ _ (.tup ys) from⟨hz,its,r',fu.new _ _⟩)
  exact⟨.ref h'.objs.size,_,I2,rfl,q _ (I1.hok.fresh (Zaf _))⟩
 ·obtain⟨its,r',pl,hz⟩:=I.tuple hq;exact call_tuple_same pl ⟨.ref p,H,I,rfl,q⟩
def tyV(K:Frag)(T:String)(x:V)(H:Hp):Prop:=match x with
 |.str _=>T="str"
 |.int _=>T="int"
 |.ref p=>(T="list"/\∃ xs,SqL K H p xs)\/(T="tuple"/\∃ o,K.lookup p=some o/\o.cls=.type "tuple"/\o.dict=none) \/
   (T="dict"/\((∃ kvs,H p=some (.dK kvs))\/∃ kvs,H p=some (.dT kvs)))\/(T="set"/\∃ S n,H p=some (.set S n))
 |_=>False
theorem QQ{pins:List (Addr×Obj)}{σ:St}{H:Hp}{s:Shared}{T:String}{x:V}{v:Value}(I:Inv X pins σ H s)(r:RelV x v)(ty:tyV X.K T x H) :
  s.TypeIs v T/\∀ a,v=.ref a->∃ ob,s.heap.get? a=some ob/\ob.dict=none:=by
 cases x with
 |str z=>
  obtain⟨t,rfl⟩:=r;cases (show T="str" from ty);exact⟨typeIs_str s z t,λ_ e=>nomatch e⟩
 |int i=>
  obtain⟨t,rfl⟩:=r;cases (show T="int" from ty);exact⟨typeIs_int s i t,λ_ e=>nomatch e⟩
 |ref p=>
  cases r;rcases ty with⟨rfl,xs,hq⟩|⟨rfl,o,hk,hc,hd⟩|⟨rfl,hk⟩|⟨rfl,S,n,hk⟩
  ·obtain⟨its,_,pl,_⟩:=I.list hq;refine⟨pl.isList.typeIs,λa e=>?_⟩;cases e;obtain⟨o,n,e,c,hd,_⟩:=pl;exact⟨o,e,hd⟩
  ·refine⟨⟨o,I.kIn p o hk,hc⟩,λa e=>?_⟩;cases e;exact⟨o,I.kIn _ o hk,hd⟩
  ·have z:∃ o,s.heap.get? p=some o/\o.ExactDict:=by
    rcases hk with⟨kvs,hk⟩|⟨kvs,hk⟩
    ·obtain⟨_,_,_,_,o,_,_,e,ex,_⟩:=I.hok p _ hk;exact⟨o,e,ex⟩
    ·obtain⟨_,_,_,_,o,_,_,e,ex,_⟩:=I.hok p _ hk;exact⟨o,e,ex⟩
   obtain⟨o,e,ex⟩:=z;refine⟨⟨o,e,ex.1⟩,λa e2=>?_⟩;cases e2;exact⟨o,e,ex.2.1⟩
  ·obtain⟨o,_,_,_,e,ex,_⟩:=I.hok p _ hk;refine⟨⟨o,e,ex.1⟩,λa e2=>?_⟩;cases e2;exact⟨o,e,ex.2.1⟩
 |_=>exact False.elim ty
def tBM(K:Frag)(T:String)(r:V->List V->Hp->VK->Prop)(to:TE)(t:TA):TE:=λσ H Q=>to σ H λx H1=>tyV K T x H1/\t σ H1 λxs H2=>r x xs H2 Q
variable{o e:Expr}{es:List Expr}{to:TE}{t:TA}{name:Str}{apos cpos:Pos}{T id:String}{r:V->List V->Hp->VK->Prop}
theorem pL(pa:PlainAttrs T)(slot:Slot T name id)(hty:typeOf (.builtin id)=pure (.type "method_descriptor"))(hm:MtR X id r)(ho:PE X o to)(ha:PA X (e::es) t)
  (hbase:attributeBase o name X.env (eval o X.env)=eval o X.env:=by rfl)
  (hfew:((backTo cpos (starEach (e::es) X.env)).all (λx=>!x.1)&&(backToKw cpos (keywordEach [] X.env)).all (λx=>x.1.isSome)
   && decide ((e::es).length+([]:List Keyword).length+(if([]:List Keyword).isEmpty then 0 else 1)<30))=true:=by rfl)
  (hline:(apos.endLine==cpos.line)=true:=by rfl)(hs:starEach (e::es) X.env=(false,eval e X.env)::starEach es X.env:=by rfl)(hplain:(backTo cpos (starEach es X.env)).any (·.1)=false:=by rfl) :
  PE X (.Call (.Attribute o name apos) (e::es) [] cpos) (tBM X.K T r to t):=by
 intro pins s σ H Q I h;refine wpAny_Call_method_late hbase hfew hline rfl (thn (ho pins s σ H _ I h) ?_);rintro v s1 ⟨x,H1,I1,r1,ty,q1⟩;obtain⟨h1,h2⟩:=QQ I1 r1 ty;refine⟨T,id,pa,slot,hty,h1,h2,?_⟩;have hA:=ha cpos pins s1 σ H1 _ I1 q1;rw[hs] at hA ⊢;refine Calls.callWith_builtin (by show(false||(backTo cpos (starEach es X.env)).any (·.1))=false;rw[hplain]<;>rfl) (Calls.evalArgs_plain ?_)
 exact thn hA λus s2 ⟨vs,H2,I2,r2,q2⟩=>hm pins s2 σ H2 x vs v us Q I2 r1 r2 q2
end
def MtM(X:Cx)(id:String)(r:V->List V->Hp->VK->Prop):Prop:=
 ∀ (pins:List (Addr×Obj)) (s:Shared) (σ:St) (H:Hp) (x:V) (xs:List V) (v:Value) (us:List Value) (Q:VK),Inv X pins σ H s->RelV x v->Vals xs us->r x xs H Q ->
  wpAny (model X.prog X.w) X.A (call (.builtin id) (v::us)) (EP X pins σ Q) X.xe s
theorem Vals.one:∀ {x:V}{us:List Value},Vals [x] us->∃ u,us=[u]/\RelV x u
 |_,_,.cons r .nil=>⟨_,rfl,r⟩
theorem Vals.two:∀ {x y:V}{us:List Value},Vals [x,y] us->∃ u v,us=[u,v]/\RelV x u/\RelV y v
 |_,_,_,.cons r (.cons q .nil)=>⟨_,_,rfl,r,q⟩
theorem Vals.rep{xs:List V}{us:List Value}(h:Vals xs us):∀ k:Nat,Vals (List.replicate k xs).flatten (List.replicate k us).flatten
 |0=>.nil
 |k+1=>by
  rw[List.replicate_succ,List.replicate_succ,List.flatten_cons,List.flatten_cons];exact Vals.append h (Vals.rep h k)
section
variable{X:Cx}{pins:List (Addr×Obj)}{σ:St}{H:Hp}{s:Shared}{l:Addr}{xs ys:List V}
theorem Inv.Uo{its its':List Value}{n:Nat}{f:Array Value->Array Value}{t':Nat}(I:Inv X pins σ H s)(hH:H l=some (.lst xs))
  (e:s.heap.get? l=some { cls:=.type "list",data:=.seq its.toArray n })(hf:f its.toArray=its'.toArray)(hv:Vals ys its')(hz:ys.length<=sizeLine) :
  Inv X pins σ (upd H l (.lst ys)) { s with heap:=s.heap.update l (Obj.mapSeq f),toks:=t' }:=by
 have q:=PySem.IsL.update e f;rw[hf] at q;refine I.write (x:=l) (e:=l) (by rw[hH];exact trivial) (.inl rfl) (λb' u hb hu=>(Heap.get?_update_other s.heap (Obj.mapSeq f) (Zbs hb)).trans hu) ⟨_,q⟩ ?_
 exact⟨hz,its',_,hv,q⟩
theorem Inv.Uq{its:List Value}{t':Nat}(I:Inv X pins σ H s)(hv:Vals ys its)(hz:ys.length<=sizeLine) :
  Inv X pins σ (upd H s.heap.objs.size (.lst ys)) { s with heap:=s.heap.push { cls:=.type "list",data:=.seq its.toArray },toks:=t' }:=
 I.laid (λ_ _ q=>Zac _ q) (Zaf _) ⟨hz,its,0,hv,Zam _ rfl⟩
theorem Inv.fresh(I:Inv X pins σ H s):H s.heap.objs.size=none:=I.hok.fresh (Zaf _)
theorem Inv.Ur(I:Inv X pins σ H s)(hH:H l=some (.lst xs)):xs.length<=sizeLine/\∃ (its:List Value) (n:Nat),Vals xs its/\xs.length=its.length/\s.heap.get? l=some { cls:=.type "list",data:=.seq its.toArray n }:=by
 obtain⟨z,its,n,r,e⟩:=I.hok l _ hH;exact⟨z,its,n,r,r.length,e⟩
end
section
variable{X:Cx}
def xg:V->List V->Hp->VK->Prop:=λx vs H Q=>∃ l xs y,x=.ref l/\vs=[y]/\H l=some (.lst xs)/\xs.length<sizeLine/\Q .non (upd H l (.lst (xs++[y])))
theorem dG:MtM X "list.append" xg:=by
 intro pins s σ H x vs v us Q I rx rv h;obtain⟨l,xs,y,rfl,rfl,hH,hz,q⟩:=h;cases rx;obtain⟨u,rfl,ru⟩:=rv.one;obtain⟨z,its,n,r,hl,e⟩:=I.Ur hH;refine call_meets F.slot_list_append ⟨_,e,rfl⟩ F.entry_list_append (F.args_list_append_2 _ _) (PySem.list_append l its.toArray n u (by rw[List.size_toArray];lia)) ⟨e,?_⟩
 refine⟨.non,_,I.Uo (its':=its++[u]) hH e (by simp) (r.append (.cons ru .nil)) ?_,rfl,q⟩
 rw[List.length_append,List.length_singleton];lia
end
end L2
namespace Att
open PySem PySem.W PySem.Calls PyProof.Rows
theorem sG{P:Params}{h:Heap}:∀ (ns:List Int) (vs:List Value),WellAll P h vs (ns.map WData.int)->IntsAre vs ns:=by
 intro ns;induction ns with
 |nil=>
  intro vs w;rw[List.map_nil] at w;cases w;exact .nil
 |cons n ns ih=>
  intro vs w;rw[Zas] at w;cases w with
  |cons a b=>
   cases a;exact .cons _ _ (ih _ b)
theorem GP{l:OpenLaw}{n:Nat}(hn:l.most=some n){P:Params}{h:Heap}{args:List WData}{vals:List Value}
  (hpre:l.row.toRowW.claim.pre args=true)(hwl:WellAll P h vals args) :
  ∃ a vs ns,vals=[Value.ref a]/\args=[WData.list (ns.map WData.int)]/\h.get? a=some { cls:=.type "list",data:=.seq vs.toArray }/\IntsAre vs ns/\ns.length<=n:=by
 have hsh:WShape.hasAll [] args [.list .int]=true:=(pre_splitW hpre).1;have hc:l.pre.holds [] { args:=args }=true:=(pre_splitW hpre).2;obtain⟨d,r,rfl,h1,h2⟩:=hasAllW_cons hsh;obtain rfl:=hasAllW_nil h2;obtain⟨xs,rfl,h3⟩:=hasW_list h1;obtain⟨ns,rfl⟩:=items_int h3;have hlen:ns.length<=n:=by
  unfold OpenLaw.pre at hc;have h4:(WTm.not (.lt (.lit (.int (n:Int))) (.len (.arg 0)))).holds [] { args:=[.list (ns.map .int)] }=true:=by
   have h4:=(holds_andW hc).1;rw[hn] at h4;exact h4
  have h5:=condW_of h4 (w_not (w_lt w_lit (w_len_list (w_arg rfl))));rw[List.length_map] at h5;refine Nat.le_of_not_lt λq=>?_;have q':(n:Int)<((ns.length:Nat):Int):=by omega
  first
   |(rw[ZaD q'] at h5;exact absurd h5 (by decide))
   |(simp at h5;omega)
 cases hwl with
 |cons w1 w2=>
  cases w2;cases w1 with
  |list ho hall=>exact⟨_,_,ns,rfl,rfl,ho,sG ns _ hall,hlen⟩
theorem GQ(l:OpenLaw)(args:List WData):l.row.toRowW.claim.post args (.bool true) args=true:=
 postW_of (r:=l.row.toRowW) (X:=(true==true))
  (show WShape.has [] (.bool true) .bool=true by first|rfl|decide|simp[WShape.has,WShape.arms,WShape.armsAll])
  (show(WTm.eq .res (.lit (.bool true))).value [] { args:=args,res:=some (.bool true),after:=args }=some (.bool (true==true)) from w_eq_bool (w_res rfl) w_lit) rfl
theorem yU{l:OpenLaw}{n:Nat}{q:Program}{loose:List Str}{XP:(Str->Option Value)->Heap->Prop}{YP:World->Heap->Prop}{d:DefRec}
  (hn:l.most=some n)(hdf:d.params.defaults=[])
  (call:∀ (w:World) (s₀ s₁:Shared) (mg mb:Str->Option Value) (fa:Addr) (o:Obj) (pm cd doc:Value) (a:Addr) (vs:List Value) (ns:List Int),
   Ground q loose [] XP w s₀ mg mb s₁.heap->YP w s₁.heap ->
   s₁.heap.get? fa=some o->o.data=.func (docDef d.name d.params d.body d.scope pm cd doc)->s₁.heap.CodeRec cd d.name->mg d.name=some (.ref fa) ->
   s₁.heap.get? a=some { cls:=.type "list",data:=.seq vs.toArray }->IntsAre vs ns->ns.length<=n->s₁.gens=#[] ->
   codeAny (model l.prog w) callerA (.call (.ref fa) ⟨[.ref a],[]⟩) (λr s'=>r=.ok (.ret (.bool true))/\OldK s₁.heap s'.heap/\s'.os=s₁.os/\AllBare s'.gens) s₁) :
  WalkO q loose XP YP l.row.toRowW d [] (λf vs=>PySem.call f vs):=by
 intro w s₀ s₁ mg mb G Y fa o pm cd doc dV kV ho hd hcd hD hmg hg args vals as hpre hlay hrd hwl hlo;obtain rfl:dV=.none:=Dflts.none hD hdf;obtain rfl:kV=.none:=Dflts.noKw hD;obtain⟨a,vs,ns,rfl,rfl,hobj,hints,hlen⟩:=GP hn hpre hwl;refine enter_call (codeAny_mono (call w s₀ s₁ mg mb fa o pm cd doc a vs ns G Y ho (fd_plain hd) hcd hmg hobj hints hlen hg) λr s' hq=>?_);obtain⟨rfl,h2,h3,h4⟩:=hq;exact⟨.inl ⟨.bool true,.bool true,[],rfl,λ_=>rfl,.bool true,GQ l _,λ_=>⟨List.Pairwise.nil,λ_ hm=>(nomatch hm)⟩⟩,h2,h3,h4⟩
end Att
namespace L2
open PySem PySem.Spec PyProof.Rows
theorem qX:∀ {vs:List Value}{ns:List Int},IntsAre vs ns->Vals (ns.map V.int) vs
 |_,_,.nil=>.nil
 |_,_,.cons n t h=>.cons ⟨t,rfl⟩ (qX h)
def Only(H:Hp):Prop:=∀ b,H b=none\/∃ o xs,H b=some (.frz o (.lst xs))
theorem Je{P:Program}{w:World}{K:Frag}{mg mb:Str->Option Value}{CX:CXT}{k:Nat}{fa a:Addr}{fd:FuncData}{x:Str}{sp:Sp}{s₁:Shared}{vs:List Value}{ns:List Int}
  (KX:K.In s₁.heap)(hns:s₁.heap.Ns mainGlobals mg)(hb:s₁.heap.Ns builtinsNs mb)(hbb:∀ x:Str,x≠"__name__"->mb x=bootBuiltins x)(hlim:s₁.heap.NoLimit)(hg:s₁.gens=#[])
  (ha:s₁.heap.get? a=some { cls:=.type "list",data:=.seq vs.toArray })(hi:IntsAre vs ns)(hl:ns.length<=sizeLine)(hr:dN k callerA)
  (F:∀ base:Heap,K.In base->base.Ns mainGlobals mg->vf P w K mg base CX k fa fd [x] sp)(hbind:∀ (s:Shared) (u:Value),BindsTo s fd ⟨[u],[]⟩ [(x,u)])
  (hsp:∀ H:Hp,Only H->SqL K H a (ns.map V.int)->sp [.ref a] H (λv _=>v=.bl true) λ_ _ _=>False)
  (hCX:∀ H e s',CX [] H s₁ (λ_ _ _=>False) e s'->False) :
  codeAny (model P w) callerA (.call (.ref fa) ⟨[.ref a],[]⟩) (λr s'=>r=.ok (.ret (.bool true))/\OldK s₁.heap s'.heap/\s'.os=s₁.os/\AllBare s'.gens) s₁:=by
 have rv:=qX hi;have lenV:=hi.length;have core:∀ H:Hp,Only H->SqL K H a (ns.map V.int)->HOk P w H s₁.heap->(∀ b,H b≠none->b=a)->(H a≠none->K.lookup a=none) ->
   codeAny (model P w) callerA (.call (.ref fa) ⟨[.ref a],[]⟩) (λr s'=>r=.ok (.ret (.bool true))/\OldK s₁.heap s'.heap/\s'.os=s₁.os/\AllBare s'.gens) s₁:=by
  intro H hO hS hok hA hK;have base_of:∀ {b:Addr}{o:Obj},s₁.heap.get? b=some o->H b=none->(wV s₁.heap H).get? b=some o:=λe n=>Iv e n;have noA:∀ {b:Addr}{o:Obj}{es:Array DictEntry}{ep:Nat},s₁.heap.get? b=some o->o.data=.dict es ep->H b=none:=λ{b o es ep} e d=>by
   cases q:H b with
   |none=>rfl
   |some u=>
    have e':b=a:=hA b (by rw[q];simp)
    subst e';rw[ha] at e;cases e;have d':Data.seq vs.toArray _=Data.dict es ep:=d;cases d'
  have nsK:∀ {b:Addr}{m:Str->Option Value},s₁.heap.Ns b m->(wV s₁.heap H).Ns b m:=λ{b m} ⟨o,es,ep,e,d,r⟩=>⟨o,es,ep,base_of e (noA e d),d,r⟩;have hKb:K.In (wV s₁.heap H):=λb o e=>base_of (KX b o e) (by
   cases q:H b with
   |none=>rfl
   |some u=>
    have e':b=a:=hA b (by rw[q];simp)
    subst e';rw[hK (by rw[q];simp)] at e;cases e)
  have hM:Mod K mg (wV s₁.heap H):=⟨hKb,nsK hns,⟨mb,nsK hb,hbb⟩,let⟨mc,h1,h2⟩:=hlim;⟨mc,nsK h1,h2⟩⟩;have e0:Mq P w K mg (wV s₁.heap H) callerA [] s₁ H:=⟨rfl,hM,λb o e=>Mj e,Nat.le_of_eq (Gx _ _),trivial,λb hb=>absurd (show b∈([]:List Addr) from hb) (by simp),hok,.of_eq hg⟩
  refine codeAny_mono ((F _ hKb (nsK hns)).run callerA [] s₁ H ⟨[.ref a],[]⟩ [.ref a] [.ref a] _ _ hr e0 (hbind s₁ (.ref a)) (.cons rfl .nil) (hsp H hO hS)) λr s' h=>?_;cases r with
  |error e=>exact(hCX H e s' h).elim
  |ok fl=>
   cases fl with
   |next=>exact False.elim h
   |brk=>exact False.elim h
   |cont=>exact False.elim h
   |ret u=>
    obtain⟨v,H',os,bare,un,hok',r',q⟩:=h;have q':v=.bl true:=q;subst q';obtain rfl:u=Value.bool true:=r';refine⟨rfl,OldK.of_keep λb o e=>?_,os,bare⟩;cases q:H b with
    |none=>exact un.keep b o e q (by intro z;exact absurd (show b∈([]:List Addr) from z) (by simp)) (by simp)
    |some u=>
     rcases hO b with z|⟨ob,xs,z⟩
     ·rw[q] at z;cases z
     ·have z2:=un.frzs b ob _ z;obtain⟨e1,_⟩:=hok b _ z;obtain⟨e2,_⟩:=hok' b _ z2;rw[e] at e1;cases e1;exact e2
 cases hk:K.lookup a with
 |some o=>
  have e:=KX a o hk;rw[ha] at e;cases e;refine core (λ_=>none) (λ_=>.inl rfl) (.inr ⟨_,vs.toArray,_,hk,rfl,rfl,rfl,by rw[List.size_toArray,lenV];exact hl,by simpa using rv⟩) (λb u z=>by have z':(none:Option HO)=some u:=z;cases z') (λb z=>absurd rfl z) λz=>absurd rfl z
 |none=>
  refine core (λb=>if b=a then some (.frz { cls:=.type "list",data:=.seq vs.toArray } (.lst (ns.map V.int))) else none) (λb=>?_) (.inl (.inr ⟨{ cls:=.type "list",data:=.seq vs.toArray },Zal rfl⟩)) (λb u z=>?_) (λb z=>?_) λ_=>hk
  ·by_cases hb:b=a
   ·exact .inr ⟨_,_,Zal hb⟩
   ·exact .inl (Zak hb)
  ·by_cases hb:b=a
   ·have z':=(Zal hb).symm.trans z;cases z';subst hb;exact⟨ha,by rw[List.length_map];exact hl,vs,_,rv,ha⟩
   ·have z':=(Zak hb).symm.trans z;cases z'
  ·by_cases hb:b=a
   ·exact hb
   ·exact absurd (Zak hb) z
theorem Mw{l:PySem.W.OpenLaw}{n k:Nat}{q:Program}{loose:List Str}{XP:(Str->Option Value)->Heap->Prop}{YP:World->Heap->Prop}{d:DefRec}{K:Params->Frag}{CX:World->CXT}{sp:World->Sp}{x:Str}
  (hn:l.most=some n)(hn2:n<=sizeLine)(hdf:d.params.defaults=[])(hr:dN k callerA)
  (hY:∀ (w:World) (h:Heap),YP w h->(K w.params).In h)
  (F:∀ (w:World) (mg:Str->Option Value) (fa:Addr) (h:Heap),(K w.params).In h->h.Ns mainGlobals mg->mg d.name=some (.ref fa) ->
   ∃ fd:FuncData,(∀ (s:Shared) (u:Value),BindsTo s fd ⟨[u],[]⟩ [(x,u)]) /\
    ∀ base:Heap,(K w.params).In base->base.Ns mainGlobals mg->vf l.prog w (K w.params) mg base (CX w) k fa fd [x] (sp w))
  (hsp:∀ (w:World) (H:Hp) (a:Addr) (ns:List Int),ns.length<=n->Only H->SqL (K w.params) H a (ns.map V.int)->sp w [.ref a] H (λv _=>v=.bl true) λ_ _ _=>False)
  (hCX:∀ (w:World) (H:Hp) (s:Shared) (e:Value) (s':Shared),CX w [] H s (λ_ _ _=>False) e s'->False) :
  PySem.W.WalkO q loose XP YP l.row.toRowW d [] (λf vs=>PySem.call f vs):=by
 refine Att.yU hn hdf λw s₀ s₁ mg mb fa o pm cd doc a vs ns G Y ho hd hcd hmg hobj hints hlen hg=>?_;have KX:=hY w _ Y;obtain⟨fd,hb,hF⟩:=F w mg fa _ KX G.T.g hmg;exact Je KX G.T.g G.T.b G.T.builtins G.T.nolimit hg hobj hints (ZaX hlen hn2) hr hF hb (λH hO hS=>hsp w H a ns hlen hO hS) λH e s'=>hCX w H s₁ e s'
def bA(s:Stmt):Arguments:=match s with
 |.FunctionDef _ a _ _ _ _ _ _ _ _=>a
 |_=>{ posonlyargs:=[],args:=[],vararg:=none,kwonlyargs:=[],kw_defaults:=[],kwarg:=none,defaults:=[] }
def bu(s:Stmt):List Stmt:=match s with
 |.FunctionDef _ _ b _ _ _ _ _ _ _=>b
 |_=>[]
def aM(s:Stmt):Scope:=match s with
 |.FunctionDef _ _ _ _ _ _ sc _ _ _=>sc
 |_=>{ kind:=.function,names:=[],isGenerator:=false,isCoroutine:=false }
noncomputable abbrev CX0:CXT:=λ_ _ _ _ _ _=>False
noncomputable abbrev E0:XK:=λ_ _ _=>False
theorem Qd{X:Cx}:Bx CX0 X E0:=λ_ _ _ _ _ _ _ h=>h.elim
structure Fun(K:Frag)(x qual:Str)(st:Stmt)(f:Addr)(fd:FuncData):Prop where
 ex:∃ (oc:Value) (od:Option Addr) (kV doc pm:Value) (an:Option Addr) (cdv ct:Value) (osl:Array (Option Value)),
  fd=fnOf x qual (bA st) (bu st) (aM st) .none kV doc pm an cdv ct/\K.lookup f=some ⟨oc,od,.func fd,osl⟩/\codeIn K cdv qual=true
 kp:keepIn K (.ref f)=true
section
variable{P:Program}{w:World}{K:Frag}{mg:Str->Option Value}{base:Heap}
theorem Fun.ok{x qual:Str}{st:Stmt}{f:Addr}{fd:FuncData}{N ps:List Str}{k:Nat}{sp:Sp}(F:Fun K x qual st f fd)(S:bN N ps (aM st))(len:∀ vs H Q E,sp vs H Q E->vs.length=ps.length)
  (hbody:∀ (cdv:Value) (A:Around) (outer:List Env) (s:Shared) (H:Hp) (vs:List V) (Q:VK) (E:XK),dN k (A.deeper (envOfC qual (aM st) s.heap.objs.size f cdv))->sp vs H Q E ->
   ∃ t,PSs (By CX0 P w K mg base N qual (aM st) f cdv A outer s H E).nox (bu st) t/\t { nx:=λ_ H'=>Q .non H',rt:=Q } (start N vs) H):vf P w K mg base CX0 (k+1) f fd ps sp:=by
 obtain⟨oc,od,kV,doc,pm,an,cdv,ct,osl,rfl,lk,hcd⟩:=F.ex;refine SN lk hcd S len λA outer s H vs Q E hr hsp=>?_;obtain⟨t,h,q⟩:=hbody cdv A outer s H vs Q E hr hsp;exact⟨t,h.nox,q⟩
theorem Fun.binds{x qual:Str}{st:Stmt}{f:Addr}{fd:FuncData}{ps:List Str}(F:Fun K x qual st f fd)
  (h:∀ (kV doc pm:Value) (an:Option Addr) (cdv ct:Value) (us:List Value),us.length=ps.length->bindArgs (fnOf x qual (bA st) (bu st) (aM st) .none kV doc pm an cdv ct) ⟨us,[]⟩=pure (ps.zip us)):Binds K fd ps []:=by
 obtain⟨oc,od,kV,doc,pm,an,cdv,ct,osl,rfl,lk,hcd⟩:=F.ex;exact .all (h kV doc pm an cdv ct)
theorem cI{x qual:Str}{st:Stmt}{f:Addr}{oc:Value}{od an:Option Addr}{osl:Array (Option Value)}{kV doc pm cdv ct:Value}(l:K.lookup f=some ⟨oc,od,.func (fnOf x qual (bA st) (bu st) (aM st) .none kV doc pm an cdv ct),osl⟩)
  (c:codeIn K cdv qual=true)(k:keepIn K (.ref f)=true):Fun K x qual st f (fnOf x qual (bA st) (bu st) (aM st) .none kV doc pm an cdv ct):=⟨⟨oc,od,kV,doc,pm,an,cdv,ct,osl,rfl,l,c⟩,k⟩
end
theorem Ei{A:Around}{k:Nat}(hr:dN k A):A.units+1<cLine:=Nat.lt_of_le_of_lt (Nat.add_le_add_left (by decide:1<=64) _) hr.units
theorem aX{n:Nat}(h:n<=1000):n<sizeLine:=Nat.lt_of_le_of_lt h (by decide)
section
variable{X:Cx}
theorem pv(i:Nat){x:Str}{pos:Pos}(hN:X.N[i]?=some x:=by rfl)(hv:Vis X.env.scope x:=by first|exact Or.inl rfl|exact Or.inr (Or.inl rfl)|exact Or.inr (Or.inr rfl))(hd:(x==("__debug__":Str))=false:=by decide)
  (hcd:(x==("__classdict__":Str))=false:=by decide):PE X (.Name x pos) (pJ i):=Bo hN hv hd hcd
end
theorem t7{c A B:Prop}[Decidable c](h1:c->A)(h2:¬c->B):if c then A else B:=by
 by_cases h:c
 ·rw[Zal h];exact h1 h
 ·rw[Zak h];exact h2 h
def aR(H H':Hp):Prop:=∀ b o,H b=some o->H' b=some o
theorem aR.refl(H:Hp):aR H H:=λ_ _ h=>h
theorem aR.trans{H H1 H2:Hp}(a:aR H H1)(b:aR H1 H2):aR H H2:=λc o h=>b c o (a c o h)
theorem aR.free{H H':Hp}(e:aR H H'){l:Addr}(h:H' l=Option.none):H l=Option.none:=by
 cases q:H l with
 |none=>rfl
 |some o=>
  rw[e l o q] at h;cases h
theorem aR.seq{K:Frag}{H H':Hp}{a:Addr}{xs:List V}(e:aR H H')(h:SqL K H a xs):SqL K H' a xs:=by
 rcases h with(h|⟨o,h⟩)|h
 ·exact .inl (.inl (e _ _ h))
 ·exact .inl (.inr ⟨o,e _ _ h⟩)
 ·exact .inr h
end L2
set_option maxHeartbeats 4000000
namespace Mth
def sub(l m:List Bool):Bool:=(List.range l.length).all λi=>!l.getD i false||m.getD i false
def pl(W:Nat)(c:Int×Int):Nat:=c.2.toNat*W+c.1.toNat
def cellOf(W:Nat)(i:Nat):Int×Int:=(((i%W:Nat):Int),((i/W:Nat):Int))
def qY(W:Nat)(ps:List (Int×Int)):Nat:=ps.foldl (λn c=>n ||| 2^pl W c) 0
theorem yV(W:Nat):∀ (ps:List (Int×Int)) (n i:Nat),(ps.foldl (λn c=>n ||| 2^pl W c) n).testBit i=(n.testBit i||decide (∃ c∈ps,pl W c=i))
 |[],n,i=>by simp
 |c::ps,n,i=>by
  rw[List.foldl_cons,yV W ps,Nat.testBit_or,Nat.testBit_two_pow,Bool.or_assoc];congr 1
  rw[Bool.eq_iff_iff];simp
theorem Ej(W:Nat)(ps:List (Int×Int))(i:Nat):(qY W ps).testBit i=decide (∃ c∈ps,pl W c=i):=by
 unfold qY;rw[yV];simp
theorem GR(W:Nat)(ps:List (Int×Int))(c:Int×Int):qY W (ps++[c])=qY W ps ||| 2^pl W c:=by
 unfold qY;rw[List.foldl_append];rfl
end Mth
namespace L2
open PySem PySem.Spec PyProof.Rows
theorem oM{env:Env}:∀ (names:List (Str×NameKind)) (cs:List (Str×Addr)),(∀ x∈names,x.2=.free->∃ c,env.cells.lookup x.1=some c) ->
  (∀ x c,cs.lookup x=some c->env.cells.lookup x=some c) ->
  ∃ cl,(forIn names cs λx s=>if(x.snd==NameKind.free)=true then do let d <-cellOf env x.fst;pure (ForInStep.yield ((x.fst,d)::s)) else pure (ForInStep.yield s):Sem _)=pure cl /\
   (∀ x c,cl.lookup x=some c->env.cells.lookup x=some c)/\(∀ x c,cs.lookup x=some c->cl.lookup x=some c)/\∀ x,(x,NameKind.free)∈names->∃ c,cl.lookup x=some c
 |[],cs,_,h2=>⟨cs,rfl,h2,λ_ _ e=>e,λ_ h=>nomatch h⟩
 |(n,k)::r,cs,h1,h2=>by
  rw[List.forIn_cons];by_cases hk:k=.free
  ·subst hk;obtain⟨c,hc⟩:=h1 (n,.free) List.mem_cons_self rfl;have ec:cellOf env n=pure c:=by unfold cellOf;simp only[hc]
   obtain⟨cl,e,p1,p2,p3⟩:=oM r ((n,c)::cs) (λx hx=>h1 x (List.mem_cons_of_mem _ hx)) (λx d e=>by
    rw[List.lookup_cons] at e;by_cases hx:x=n
    ·subst hx;simp at e;subst e;exact hc
    ·have hb:(x==n)=false:=beq_eq_false_iff_ne.mpr hx;rw[hb] at e;exact h2 x d e)
   refine⟨cl,?_,p1,λx d e'=>?_,λx hx=>?_⟩
   ·simp only[beq_self_eq_true,Zb3,ec];exact e
   ·by_cases hx:x=n
    ·subst hx;have:=h2 _ _ e';rw[hc] at this;cases this;exact p2 x c (by simp)
    ·have hb:(x==n)=false:=beq_eq_false_iff_ne.mpr hx;exact p2 x d (by rw[List.lookup_cons,hb];exact e')
   ·rcases Zay.mp hx with e|hx
    ·cases e;exact⟨c,p2 n c (by simp)⟩
    ·exact p3 x hx
  ·obtain⟨cl,e,p1,p2,p3⟩:=oM r cs (λx hx=>h1 x (List.mem_cons_of_mem _ hx)) h2;have hb:(k==NameKind.free)=false:=by simpa using hk
   refine⟨cl,?_,p1,p2,λx hx=>?_⟩
   ·simp only[hb,ZbZ,ZbJ];exact e
   ·rcases Zay.mp hx with e|hx
    ·cases e;exact absurd rfl hk
    ·exact p3 x hx
theorem BJ{scope:Scope}{env:Env}(h:∀ x∈scope.names,x.2=.free->∃ c,env.cells.lookup x.1=some c):∃ cl,closureFor scope env=pure cl /\
  (∀ x c,cl.lookup x=some c->env.cells.lookup x=some c)/\∀ x,(x,NameKind.free)∈scope.names->∃ c,cl.lookup x=some c:=by
 obtain⟨cl,e,p1,_,p3⟩:=oM scope.names [] h (λ_ _ e=>nomatch e);refine⟨cl,?_,p1,p3⟩;simp only[closureFor];rw[e];rfl
noncomputable abbrev lF(env:Env)(x:Str×NameKind):Str×NameKind:=if(x.2==NameKind.free&&env.scope.kind==.function&&env.kindOf x.1==some .cell)=true then(x.1,NameKind.cell) else x
theorem GX(env:Env)(x:Str×NameKind):(lF env x).1=x.1:=by unfold lF;split<;>rfl
theorem pN{env:Env}:∀ (names:List (Str×NameKind)) (x:Str),(names.map (lF env)).lookup x=(names.lookup x).map λk=>(lF env (x,k)).2
 |[],x=>rfl
 |(n,k)::r,x=>by
  rw[Zas];have e1:lF env (n,k)=(n,(lF env (n,k)).2):=by
   have:=GX env (n,k);cases h:lF env (n,k) with
   |mk a b=>rw[h] at this;cases this;rfl
  rw[e1,List.lookup_cons,List.lookup_cons,pN r x];by_cases hx:x=n
  ·subst hx;simp
  ·have hb:(x==n)=false:=beq_eq_false_iff_ne.mpr hx;rw[hb]
theorem vh(scope:Scope)(env:Env):(relabel scope env).names=scope.names.map (lF env):=by
 unfold relabel;show List.map _ _=_
 refine Zbf λx _=>?_;obtain⟨n,k⟩:=x;rfl
theorem jb(scope:Scope)(env:Env)(x:Str):(relabel scope env).names.lookup x=(scope.names.lookup x).map λk=>(lF env (x,k)).2:=by
 rw[vh,pN]
theorem iB{scope:Scope}{env:Env}{x:Str}{k:NameKind}(hk:k≠.free)(h:scope.names.lookup x=some k):(relabel scope env).names.lookup x=some k:=by
 rw[jb,h];simp[lF,hk]
theorem pO{scope:Scope}{env:Env}{x:Str}(h:scope.names.lookup x=some .free):(relabel scope env).names.lookup x=some .cell\/(relabel scope env).names.lookup x=some .free:=by
 rw[jb,h];simp only[ZbB,lF];split
 ·exact .inl rfl
 ·exact .inr rfl
theorem BK{scope:Scope}{env:Env}{x:Str}(h0:scope.names.lookup x≠some .cell)(h:(relabel scope env).names.lookup x=some .cell\/(relabel scope env).names.lookup x=some .free):scope.names.lookup x=some .free:=by
 rw[jb] at h;cases e:scope.names.lookup x with
 |none=>rw[e] at h;simp at h
 |some k=>
  by_cases hk:k=.free
  ·rw[hk]
  ·rw[e] at h;simp[lF,hk] at h;subst h;exact absurd e h0
theorem lookup_mem{β:Type}:∀ {l:List (Str×β)}{x:Str}{v:β},l.lookup x=some v->(x,v)∈l
 |[],_,_,h=>nomatch h
 |(n,k)::r,x,v,h=>by
  rw[List.lookup_cons] at h;by_cases hx:x=n
  ·subst hx;simp at h;subst h;exact List.mem_cons_self
  ·have hb:(x==n)=false:=beq_eq_false_iff_ne.mpr hx;rw[hb] at h;exact List.mem_cons_of_mem _ (lookup_mem h)
noncomputable abbrev Cx.comp(X:Cx)(N:List Str)(scope:Scope)(cl:List (Str×Addr))(C:Addr)(s2:Shared)(H2:Hp)(fp:List Addr):Cx where
 prog:=X.prog
 w:=X.w
 K:=X.K
 mg:=X.mg
 base:=X.base
 A:=X.A
 N:=N
 s₀:=s2
 H₀:=H2
 env:=compEnvC scope cl C X.env
 outer:=X.stack
 stack:=X.stack
 ex:=fp
 fn:=λ_=>false
 calm:=X.calm
 pn:=[]
 xe:=λ_ _=>False
def t8(XN N:List Str)(xs scope:Scope)(fr:List (Option Nat)):Bool:=
 decide (fr.length=N.length)&&(scope.kind==.function)&&(scope.names.all λx=>!(x.2==.cell))&&(scope.names.all λx=>!(x.2==.local)||scope.names.lookup x.1==some .local) &&
 (scope.names.all λx=>!(x.2==.free)||(xs.names.lookup x.1==some .cell||xs.names.lookup x.1==some .free)) &&
 (List.range N.length).all λj=>match fr[j]?,N[j]? with
  |some (some i),some x=>decide (XN[i]?=some x)&&(scope.names.lookup x==some .free)
  |_,_=>true
theorem yW{XN N:List Str}{xs scope:Scope}{fr:List (Option Nat)}(h:t8 XN N xs scope fr=true) :
  fr.length=N.length/\scope.kind=.function/\(∀ x∈scope.names,x.2≠.cell)/\(∀ x∈scope.names,x.2=.local->scope.names.lookup x.1=some .local) /\
  (∀ x∈scope.names,x.2=.free->xs.names.lookup x.1=some .cell\/xs.names.lookup x.1=some .free) /\
  ∀ (j i:Nat) (x:Str),fr[j]?=some (some i)->N[j]?=some x->XN[i]?=some x/\scope.names.lookup x=some .free:=by
 unfold t8 at h;simp only[Bool.and_eq_true,Zbb,Zbx] at h;obtain⟨⟨⟨⟨⟨h1,h2⟩,h3⟩,h4⟩,h5⟩,h6⟩:=h;refine⟨h1,by simpa using h2,λx hx=>by simpa using h3 x hx,λx hx e=>?_,λx hx e=>?_,λj i x e1 e2=>?_⟩
 ·have:=h4 x hx;simp[e] at this;exact this
 ·have:=h5 x hx;simp[e] at this;exact this
 ·have hj:j<N.length:=(ZaB.mp e2).1;have:=h6 j (ZaR.mpr hj);rw[e1,e2] at this;simpa using this
def frσ(fr:List (Option Nat))(σ:St):St:=fr.map λo=>match o with
 |some i=>match σ[i]? with
  |some v=>v
  |none=>none
 |none=>none
theorem Mx{fr:List (Option Nat)}{σ:St}{j:Nat}{v:V}(h:(frσ fr σ)[j]?=some (some v)):∃ i,fr[j]?=some (some i)/\σ[i]?=some (some v):=by
 unfold frσ at h;rw[Zae] at h;cases e:fr[j]? with
 |none=>rw[e] at h;cases h
 |some o=>
  rw[e] at h;cases o with
  |none=>cases h
  |some i=>
   simp only[ZbB] at h;cases e2:σ[i]? with
   |none=>rw[e2] at h;cases h
   |some w=>rw[e2] at h;exact⟨i,rfl,by simpa[e2] using h⟩
def Jf(X:Cx)(ifs:List Expr)(t:TT):Prop:=
 ∀ (pins:List (Addr×Obj)) (s:Shared) (σ:St) (H:Hp) (Q:Bool->Hp->Prop),Inv X pins σ H s->t σ H Q ->
  wpAny (model X.prog X.w) X.A (forIn ifs true λc r=>if r=true then do let ok <-isTrue c X.env (eval c X.env);pure (ForInStep.yield ok) else pure (ForInStep.yield r)) (TP X pins σ Q) X.xe s
def S9:TT:=λ_ H Q=>Q true H
theorem oN{X:Cx}:Jf X [] S9:=λ_ _ _ H _ I h=>wpAny_tests_nil ⟨H,I,h⟩
theorem QR{X:Cx}{c:Expr}{t:TT}(h:PT X c t):Jf X [c] t:=λpins s σ H Q I hw=>wpAny_tests_one (h pins s σ H Q I hw)
def Tc(D:Addr)(tc:TT)(te:TE):TS:=λE σ H=>tc σ H λb H1=>if b=true then te σ H1 λv H2=>∃ ys,H2 D=some (.lst ys)/\ys.length<sizeLine/\E.nx σ (upd H2 D (.lst (ys++[v]))) else E.nx σ H1
def endC(Q:VK)(D:Addr):Ends:={ nx:=λ_ H=>Q (.ref D) H,rt:=λ_ _=>False }
def yX(wi:TI)(fr:List (Option Nat))(g:TG)(tc:TT)(te:TE):TE:=λσ H Q=>wi σ H λJ H1=>∀ D,H1 D=none->∃ W:Nat->Nat->St->Hp->Prop,(∃ m,W 0 m (frσ fr σ) (upd H1 D (.lst [])))/\∀ i m σ H,W i m σ H ->
 (J.stop i H/\(endC Q D).nx σ H)\/(J.go i H/\∃ N:St->Hp->Prop,(∀ σ' H',N σ' H'->∃ m',m'<m/\W (i+1) m' σ' H')/\∀ x H',J.yld i H x H'->g x σ H' λσ2 H2=>Tc D tc te { endC Q D with nx:=N,ct:=N,bk:=(endC Q D).nx } σ2 H2)
section
variable{prog:Program}{w:World}{A:Around}{R:Result->Shared->Prop}{s:Shared}
theorem GZ{elt target iter:Expr}{ifs:List Expr}{scope:Scope}{pos:Pos}{it acc:Value}{env:Env}(I:Nat->Shared->Prop)
  (turn:∀ n s,I n s->wpAny (model prog w) A (pyNext it) (λr s₁=>match r with
   |none=>R (.ok .next) s₁
   |some v=>wpAny (model prog w) A (letOwnedTupleGo target it v) (λ_ s₁=>wpAny (model prog w) A (assign target env v) (λ_ s₂=>
     wpAny (model prog w) A (forIn ifs true λc r=>if r=true then do let ok <-isTrue c env (eval c env);pure (ForInStep.yield ok) else pure (ForInStep.yield r)) (λok s₃=>
      if ok=true then wpAny (model prog w) A (eval elt env) (λx s₄=>
       wpAny (model prog w) A (call (.builtin "list.append") [acc,x]) (λ_ s₅=>∃ m,m<n/\I m s₅) (notedBy (model prog w) A env λe s'=>R (.error e) s') s₄) (notedBy (model prog w) A env λe s'=>R (.error e) s') s₃
      else ∃ m,m<n/\I m s₃) (notedBy (model prog w) A env λe s'=>R (.error e) s') s₂) (notedBy (model prog w) A env λe s'=>R (.error e) s') s₁) (notedBy (model prog w) A env λe s'=>R (.error e) s') s₁) (notedBy (model prog w) A env λe s'=>R (.error e) s') s)
  (n:Nat)(h:I n s) :
  codeAny (model prog w) A (.compLoop (.ListComp elt [⟨target,iter,ifs,0⟩] scope pos) 0 it acc env) R s:=by
 refine codeAny_loop rfl I (λn s hI=>?_) n h;show wpAny _ A ((compTurn (.ListComp elt [⟨target,iter,ifs,0⟩] scope pos) 0 it acc env).onRaise (λx=>do noteFrame x env;theTreesLotGoes x)) _ _ s
 refine wpAny_noted ?_;rw[compTurn_list];refine Zab (wpAny_standAt (Zab (Zbl (turn n s hI) (λr s₁ h₁=>?_) λ_ _ h'=>h')));cases r with
 |none=>exact Zaj h₁
 |some v=>
  refine Zab (Zbl h₁ (λ_ s₁' h₁'=>?_) λ_ _ h'=>h');refine Zab (Zbl h₁' (λ_ s₂ h₂=>Zab (Zbl h₂ (λok s₃ h₃=>?_) λ_ _ h'=>h')) λ_ _ h'=>h');cases ok with
  |false=>exact Zaj ⟨rfl,h₃⟩
  |true=>
   exact Zab (Zab (Zbl h₃ (λx s₄ h₄=>Zab (Zbl h₄ (λ_ s₅ h₅=>Zaj (Zaj ⟨rfl,h₅⟩)) λ_ _ h'=>h')) λ_ _ h'=>h'))
end
structure Apart(X:Cx)(pins:List (Addr×Obj))(C:Addr):Prop where
 ne:C≠X.env.locals
 ab:X.s₀.heap.objs.size<=C
 cells:∀ x c,X.env.cells.lookup x=some c->c≠C
 pins:∀ p∈X.pn++pins,p.1≠C
section
variable{X:Cx}{elt tg iter:Expr}{ifs:List Expr}{scope:Scope}{pos pos':Pos}{wi:TI}{g:TG}{tc:TT}{te:TE}{pins:List (Addr×Obj)}{σ:St}{H:Hp}{s:Shared}
theorem yZ(N:List Str)(fr:List (Option Nat))(hc:X.calm=true)(hi:PI X tg iter wi)(hg:∀ cl C s2 H2 fp,PG (X.comp N scope cl C s2 H2 fp) tg g)
  (ht:∀ cl C s2 H2 fp,Jf (X.comp N scope cl C s2 H2 fp) ifs tc)(he:∀ cl C s2 H2 fp,PE (X.comp N scope cl C s2 H2 fp) elt te)
  (ok:t8 X.N N X.env.scope scope fr=true)(hs:∀ x,foldedSetIterable iter X.env x=pure x){Q:VK}{Q':Value->Shared->Prop}{use:Option (Value->Sem Unit)}
  (I:Inv X pins σ H s)(h:yX wi fr g tc te σ H Q)
  (fin:∀ D C s' H',Inv X pins σ H' s'->H' C=none->Apart X pins C->(∃ m,s'.heap.Ns C m)->Q (.ref D) H'->compPost (model X.prog X.w) X.A X.xe use Q' (.ref D) C (.ok .next) s') :
  wpAny (model X.prog X.w) X.A (comprehension (.ListComp elt [⟨tg,iter,ifs,0⟩] scope pos) scope X.env pos' (newList []) false (eval iter X.env) use) Q' X.xe s:=by
 obtain⟨o1,o2,o3,o4,o5,o6⟩:=yW ok;obtain⟨cl,hclos,c1,c2⟩:=BJ (scope:=scope) (env:=X.env) (λx hx hf=>I.ok.has x.1 (o5 x hx hf));refine wpAny_comprehension_free (use:=use) rfl hs hclos o2 o4 (thn (hi pins s σ H _ I h) λxv s1 h1=>thn h1 λitv s2 h2=>?_);obtain⟨it,fp,tn,J,H2,rfl,I2,T,st2,f2,hW⟩:=h2;refine wpAny_newObj_type (wpAny_newFunctionEnv o3 (by intro y hy;simp at hy) (λh₁ hns₁ hsb₁=>?_) o2)
 dsimp only at hns₁ hsb₁ ⊢;generalize hHH:s2.heap.push { cls:=.type "list",dict:=none,data:=.seq ([]:List Value).toArray }=HH at hns₁ hsb₁ ⊢
 have hC:HH.objs.size=s2.heap.objs.size+1:=by rw[<-hHH,ZbW]
 have hDC:s2.heap.objs.size≠HH.objs.size:=by rw[hC];exact Zaz (Nat.lt_succ_self _)
 have hCle:s2.heap.objs.size<=HH.objs.size:=by rw[hC];exact Nat.le_succ _
 have neC:∀ b,b<s2.heap.objs.size->b≠HH.objs.size:=λb hb=>by rw[hC];exact Zaz (Zbr hb)
 have old:∀ b o,s2.heap.get? b=some o->h₁.get? b=some o:=λb o e=>hsb₁.extBut b o (neC b (Zaq e)) (Zac _ (hHH▸Zac _ e));have atD:h₁.get? s2.heap.objs.size=some { cls:=.type "list",data:=.seq ([]:List Value).toArray }:=hsb₁.extBut _ _ hDC (Zac _ (hHH▸Zam _ rfl));have ltf:∀ b∈fp,b<s2.heap.objs.size:=λb hb=>let⟨o,e,_⟩:=T.obj _ _ st2 b hb;Zaq e;have ltc:∀ x c,X.env.cells.lookup x=some c->c<s2.heap.objs.size:=λx c e=>let⟨v,q⟩:=I2.cell x c e;q.lt;have ltp:∀ p∈X.pn++pins,p.1<s2.heap.objs.size:=λp hp=>Zaq (I2.pin p hp).1;have fresh:H2 s2.heap.objs.size=none:=I2.hok.fresh (Zaf _);have freshC:H2 HH.objs.size=none:=I2.hok.fresh hCle;have ap:Apart X pins HH.objs.size:=⟨Zb1 (Zaw I2.lt hCle),ZaX I2.sz hCle,λx c e=>neC c (ltc x c e),λp hp=>neC _ (ltp p hp)⟩;have okY:(X.comp N scope cl HH.objs.size s2 H2 fp).Ok:={
  mod:=I2.ok.mod
  kind:=o2
  glob:=I2.ok.glob
  blt:=I2.ok.blt
  above:=hCle
  inj:=λx y c a b=>I2.ok.inj x y c (c1 _ _ a) (c1 _ _ b)
  has:=λx hx=>c2 x (lookup_mem (BK (λz=>o3 _ (lookup_mem z) rfl) hx))
  cab:=λx c hx _=>by cases hx
  hd:=I2.ok.hd
  frames:=I2.ok.frames
  stk:=.inl rfl
  exf:=λb hb=>⟨neC b (ltf b hb),λx c e=>(f2 b hb).2.2.2.2.1 x c (c1 x c e)⟩
  bs:=I2.bs
  bsz:=ZaX I2.ok.bsz I2.sz
  noex:=λb o e hb=>by
   rcases(f2 b hb).2.2.2.1 with z|z
   ·exact I2.ok.noex b o e z
   ·exact absurd (Zaw (Zaq e) (ZaX I2.ok.bsz z)) (ZbM _)
  exfs:=λb hb hf=>by
   rcases Zay.mp (I2.Bm b hf) with z|z
   ·exact(f2 b hb).2.1 z
   ·exact(f2 b hb).2.2.1 z
  pI:=I2.stack
  frf:=I2.Ea }
 have IY:Inv (X.comp N scope cl HH.objs.size s2 H2 fp) [] (frσ fr σ) (upd H2 s2.heap.objs.size (.lst [])) { s2 with heap:=h₁,toks:=s2.toks+([]:List (Str×Value)).length }:={
  ok:=okY
  os:=rfl
  bare:=I2.bare
  base:=Un.laid old (Zaf _) fresh
  loc:=by
   refine⟨_,hns₁,λj x v e1 e2 e3=>?_⟩;obtain⟨i,f1,f2'⟩:=Mx e2;obtain⟨g1,g2⟩:=o6 j i x f1 e1;have k2:=o5 _ (lookup_mem g2) rfl;obtain⟨m2,hm2,l2⟩:=I2.loc;obtain⟨u,ru,lk⟩:=l2 i x v g1 f2' (.inr k2);refine⟨u,ru,.inr ⟨pO g2,?_⟩⟩;obtain⟨c,hcl⟩:=c2 x (lookup_mem g2);refine⟨c,hcl,?_⟩;rcases lk with⟨k,_⟩|⟨_,c',e',z⟩
   ·rcases k2 with k2|k2
    ·rw[show X.env.kindOf x=X.env.scope.names.lookup x from rfl,k2] at k;cases k
    ·rw[show X.env.kindOf x=X.env.scope.names.lookup x from rfl,k2] at k;cases k
   ·rw[c1 x c hcl] at e';cases e';obtain⟨oc,hoc,hd⟩:=z;exact⟨oc,old c oc hoc,hd⟩
  cell:=λx c e=>by
   obtain⟨v,oc,hoc,hd⟩:=I2.cell x c (c1 x c e);exact⟨v,oc,old c oc hoc,hd⟩
  free:=(aq (Zbs hDC)).trans freshC
  freeC:=λx c e=>by
   rw[aq (Zaz (ltc x c (c1 x c e)))];exact I2.freeC x c (c1 x c e)
  pin:=λp hp=>by cases hp
  hok:=I2.hok.laid old (Zaf _) ⟨Zba _,[],0,.nil,atD⟩
  len:=by unfold frσ;rw[List.length_map];exact o1 }
 have stat:∀ {H':Hp}{pp:List (Addr×Obj)},pp=[]->(∀ b∈fp,H' b=none)->∀ b∈fp,oK (X.comp N scope cl HH.objs.size s2 H2 fp) pp H' b:=λ{H' pp} hp hn b hb=>by
  subst hp;exact⟨hn b hb,neC b (ltf b hb),λz=>okY.exfs b hb z,.inl hb,λx c e=>(f2 b hb).2.2.2.2.1 x c (c1 x c e),λp hp=>by cases hp⟩
 have back:∀ {σ':St}{H':Hp}{s':Shared},Inv (X.comp N scope cl HH.objs.size s2 H2 fp) [] σ' H' s'->Inv X pins σ H' s':=λ{σ' H' s'} I'=>
  I2.call' (ch:=fp) I'.os I'.base I'.hok I'.bare λb hb=>⟨(f2 b hb).2.2.2.1,(f2 b hb).2.1,(f2 b hb).2.2.2.2.1,(f2 b hb).2.2.2.2.2⟩
 have loop:∀ s₃:Shared,s₃={ s2 with heap:=h₁,toks:=s2.toks+([]:List (Str×Value)).length } ->
   codeAny (model X.prog X.w) X.A (.compLoop (.ListComp elt [⟨tg,iter,ifs,0⟩] scope pos) 0 (.ref it) (.ref s2.heap.objs.size) (compEnvC scope cl HH.objs.size X.env))
    (compPost (model X.prog X.w) X.A X.xe use Q' (.ref s2.heap.objs.size) HH.objs.size) s₃:=by
  rintro s₃ rfl;obtain⟨W,⟨m0,w0⟩,turn⟩:=hW s2.heap.objs.size fresh;refine GZ (λn s'=>∃ i σ' H',Inv (X.comp N scope cl HH.objs.size s2 H2 fp) [] σ' H' s'/\tn i s'.heap/\(∀ b∈fp,H' b=none)/\W i n σ' H') ?_ m0
   ⟨0,_,_,IY,T.keep _ _ _ st2 λb _ o e=>old b o e,λb hb=>by rw[aq (Zaz (ltf b hb))];exact(f2 b hb).1,w0⟩
  rintro n s3 ⟨i,σ3,H3,I3,st3,fr3,w3⟩;rcases turn i n σ3 H3 w3 with⟨stop,q⟩|⟨go,Nx,hN,step⟩
  ·refine thn (T.done (X.comp N scope cl HH.objs.size s2 H2 fp) rfl rfl rfl hc i [] s3 σ3 H3 _ I3 (stat rfl fr3) st3 stop) ?_;rintro r s4 ⟨hr,I4⟩;subst hr;obtain⟨m4,hm4,_⟩:=I4.loc;exact fin _ _ s4 H3 (back I4) I4.free ap ⟨m4,hm4⟩ q
  ·refine thn (T.item (X.comp N scope cl HH.objs.size s2 H2 fp) rfl rfl rfl hc i [] s3 σ3 H3 _ I3 (stat rfl fr3) st3 go) ?_;rintro r s4 ⟨u,hr,h4⟩;subst hr;refine thn h4 ?_;rintro _ s5 ⟨x,H5,I5,r5,y5,st5,fr5⟩;have I5':=I5.pinned (stat rfl fr5) (T.obj _ _ st5);refine Zbl (hg cl HH.objs.size s2 H2 fp _ s5 σ3 H5 x u _ I5' r5 (step x H5 y5)) (?_) λ_ _ f=>f.elim;rintro _ s6 ⟨σ6,H6,I6,q6⟩;have again:∀ {s7:Shared}{σ7:St}{H7:Hp},Inv (X.comp N scope cl HH.objs.size s2 H2 fp) ([]++t6 fp s5.heap) σ7 H7 s7->Nx σ7 H7 ->
     ∃ m,m<n/\∃ i σ' H',Inv (X.comp N scope cl HH.objs.size s2 H2 fp) [] σ' H' s7/\tn i s7.heap/\(∀ b∈fp,H' b=none)/\W i m σ' H':=λ{s7 σ7 H7} I7 n7=>by
    obtain⟨m',hm,w7⟩:=hN σ7 H7 n7;refine⟨m',hm,i+1,σ7,H7,I7.jD,T.keep _ _ _ st5 λb hb o e=>(I7.pin (b,o) (ZaA _ (ZaA _ (j5 hb e)))).1,λb hb=>?_,w7⟩;obtain⟨o,e,d⟩:=T.obj _ _ st5 b hb;exact(I7.pin (b,o) (ZaA _ (ZaA _ (j5 hb e)))).2.1
   refine Zbl (ht cl HH.objs.size s2 H2 fp _ s6 σ6 H6 _ I6 q6) (?_) λ_ _ f=>f.elim;rintro b s7 ⟨H7,I7,q7⟩;cases b with
   |false=>
    rw[Zak (by decide)] at q7 ⊢
    exact again I7 q7
   |true=>
    rw[Zal rfl] at q7 ⊢;refine Zbl (he cl HH.objs.size s2 H2 fp _ s7 σ6 H7 _ I7 q7) (?_) λ_ _ f=>f.elim;rintro y s8 ⟨v,H8,I8,r8,q8⟩;obtain⟨ys,e8,l8,n8⟩:=q8;refine Zbl (dG (X:=X.comp N scope cl HH.objs.size s2 H2 fp) _ s8 σ6 H8 (.ref s2.heap.objs.size) [v] (.ref s2.heap.objs.size) [y] (λ_ H9=>Nx σ6 H9) I8 rfl (.cons r8 .nil) ⟨_,ys,v,rfl,rfl,e8,l8,n8⟩) (?_) λ_ _ f=>f.elim;rintro _ s9 ⟨_,H9,I9,_,n9⟩;exact again I9 n9
 exact codeAny_compStart_list (loop _ rfl) (T.self _ 0 _ _ _ (T.keep _ _ _ st2 λb _ o e=>old b o e) (loop _ rfl))
theorem nu(N:List Str)(fr:List (Option Nat))(hc:X.calm=true)(hi:PI X tg iter wi)(hg:∀ cl C s2 H2 fp,PG (X.comp N scope cl C s2 H2 fp) tg g)
  (ht:∀ cl C s2 H2 fp,Jf (X.comp N scope cl C s2 H2 fp) ifs tc)(he:∀ cl C s2 H2 fp,PE (X.comp N scope cl C s2 H2 fp) elt te)
  (ok:t8 X.N N X.env.scope scope fr=true:=by kernel_rfl)(hs:∀ x,foldedSetIterable iter X.env x=pure x:=by intro _;rfl) :
  PE X (.ListComp elt [⟨tg,iter,ifs,0⟩] scope pos) (yX wi fr g tc te):=by
 intro pins s σ H Q I h;rw[eval_ListComp];refine yZ (use:=none) N fr hc hi hg ht he ok hs I h λD C s' H' I' hn ap hm q=>?_;obtain⟨m,hm⟩:=hm;exact⟨m,hm,λh' sb=>⟨.ref D,H',I'.turned (t':=s'.toks) (λb o hb e=>(sb.2 b hb).trans e) hn ap.ne (.inr ap.ab) ap.cells ap.pins,rfl,q⟩⟩
theorem Ek{i:Nat}{y:Str}{py spos:Pos}(N:List Str)(fr:List (Option Nat))(hc:X.calm=true)(hN:X.N.Nodup)(hiy:X.N[i]?=some y)(hy:X.env.scope.names.lookup y=some .local)(hi:PI X tg iter wi)
  (hg:∀ cl C s2 H2 fp,PG (X.comp N scope cl C s2 H2 fp) tg g)(ht:∀ cl C s2 H2 fp,Jf (X.comp N scope cl C s2 H2 fp) ifs tc)(he:∀ cl C s2 H2 fp,PE (X.comp N scope cl C s2 H2 fp) elt te)
  (ok:t8 X.N N X.env.scope scope fr=true:=by kernel_rfl)(hs:∀ x,foldedSetIterable iter X.env x=pure x:=by intro _;rfl)
  (hsw:swapsWith (.ListComp elt [⟨tg,iter,ifs,0⟩] scope pos) (some (.Name y py)) spos.line X.env=pure true:=by rfl) :
  PS X (.Assign [.Name y py] (.ListComp elt [⟨tg,iter,ifs,0⟩] scope pos) spos) (Gy (yX wi fr g tc te) (tY i)):=by
 intro pins s σ H D I h;rw[exec_Assign_Name_used _ _ _ _ hsw];refine Zab (wpAny_standAt (Zab ?_));show wpAny _ X.A (do let _ <-comprehension (.ListComp elt [⟨tg,iter,ifs,0⟩] scope pos) scope X.env _ (newList []) false (eval iter X.env) (some (assign (.Name y py) X.env))) _ _ s
 refine Zab (Zbl (yZ (use:=some (assign (.Name y py) X.env)) (Q':=λ_ s'=>SP X pins D .next s') N fr hc hi hg ht he ok hs I h λDa C s' H' I' hn ap hm q=>?_) (λ_ s' hq=>Zaj (Zaj hq)) λ_ _ e=>e);obtain⟨m,hm⟩:=hm;show wpAny _ X.A (assign (.Name y py) X.env (.ref Da)) _ _ _
 refine wpAny_assign_Name (vK I' hN hiy (.inl hy) (v:=.ref Da) rfl (λs'' I'' hsb=>?_) (.inr hy));obtain⟨a,sb,ha⟩:=hsb;have hne:C≠a:=by
  rcases ha with z|z
  ·rw[z];exact ap.ne
  ·exact Zbs (ap.cells y a z)
 exact⟨m,hm.sameBut sb hne,λh' sb'=>⟨_,H',I''.turned (t':=s''.toks) (λb o hb e=>(sb'.2 b hb).trans e) hn ap.ne (.inr ap.ab) ap.cells ap.pins,q⟩⟩
end
section
variable{X:Cx}{pins:List (Addr×Obj)}{σ:List (Option V)}{H:Hp}{s:Shared}{h':Heap}
theorem Inv.nA{t':Nat}{ch:List Addr}(I:Inv X pins σ H s)(k:∀ b o,b ∉ ch->s.heap.get? b=some o->h'.get? b=some o)(hf:∀ b∈ch,oK X pins H b):Inv X pins σ H { s with heap:=h',toks:=t' }:=by
 have nit:∀ b u,H b=some u->b ∉ ch:=λb u e z=>by rw[(hf b z).1] at e;cases e
 refine I.step (g':=s.gens) (d':=s.drawn) (ch:=ch) (λb hb=>⟨(hf b hb).2.2.2.1,(hf b hb).2.1,(hf b hb).2.2.2.2.1,(hf b hb).2.2.2.2.2⟩) (λb o _ _ hc e _=>k b o hc e) (λb o _ _ hc e _=>⟨o.slots,k b o hc e⟩) (λ_ _ _ _ n=>n)
  (λb o hc e=>⟨o,k b o hc e⟩) (λ_ _ e=>e) (λ_ _ _ e=>e) (λb ps e=>⟨#[],by rw[e];simp⟩) (λm hm=>?_) (λb u e=>?_) I.bare
 ·obtain⟨o,es,ep,ho,r⟩:=hm;exact⟨o,es,ep,k _ o (λz=>(hf _ z).2.1 rfl) ho,r⟩
 ·refine(I.hok b u e).stay (λc v hc q=>k c v ?_ q) (λ_ q=>q) λ_ _ q=>q;rcases hc with z|z
  ·rw[z];exact nit b u e
  ·exact nit c _ z
theorem Inv.vR{t':Nat}{ch:List Addr}{a:Addr}{o:HO}(I:Inv X pins σ H s)(k:∀ b o,b ∉ ch->s.heap.get? b=some o->h'.get? b=some o)(hf:∀ b∈ch,oK X pins H b)(ha:s.heap.objs.size<=a)
  (new:cL X.prog X.w (upd H a o) h' a o):Inv X pins σ (upd H a o) { s with heap:=h',toks:=t' }:=by
 have hn:H a=none:=I.hok.fresh ha;have nit:∀ b u,H b=some u->b ∉ ch:=λb u e z=>by rw[(hf b z).1] at e;cases e
 have ne:∀ b ob,s.heap.get? b=some ob->b≠a:=λb ob e z=>by rw[z] at e;exact absurd (Zaw (Zaq e) ha) (ZbM _)
 refine I.step (g':=s.gens) (d':=s.drawn) (ch:=ch) (λb hb=>⟨(hf b hb).2.2.2.1,(hf b hb).2.1,(hf b hb).2.2.2.2.1,(hf b hb).2.2.2.2.2⟩) (λb o _ _ hc e _=>k b o hc e) (λb o _ _ hc e _=>⟨o.slots,k b o hc e⟩) (λb ob _ e n=>by rw[aq (ne b ob e)];exact n)
  (λb o hc e=>⟨o,k b o hc e⟩) (λb xs e=>by rw[aq (aW e hn)];exact e) (λb ob u e=>by rw[aq (aW e hn)];exact e) (λb ps e=>⟨#[],by rw[aq (aW e hn),e];simp⟩) (λm hm=>?_) (λb u e=>?_) I.bare
 ·obtain⟨o,es,ep,ho,r⟩:=hm;exact⟨o,es,ep,k _ o (λz=>(hf _ z).2.1 rfl) ho,r⟩
 ·by_cases hb:b=a
  ·subst hb;rw[aA] at e;cases e;exact new
  ·rw[aq hb] at e;refine(I.hok b u e).stay (λc v hc q=>k c v ?_ q) (λc q=>by rw[aq (aW q hn)];exact q) λc xs q=>by rw[aq (aW q hn)];exact q
   rcases hc with z|z
   ·rw[z];exact nit b u e
   ·exact nit c _ z
end
def Itf(f:Nat->V)(n:Nat):It:=⟨λi _=>i<n,λi H x H'=>H'=H/\x=f i,λi _=>i=n⟩
def sgn(z:Str)(i:Nat):V:=.str ⟨#[z.cps.getD i 0]⟩
theorem vU{P:Program}{w:World}{A:Around}(hh:A.handled=none)(it:Addr)(z:Str)(t:Tok):Walks P w A it [it] [it] z.cps.size (SignAt z) (λi h=>h.IsStrIter it (strIterType z) z t i):=by
 unfold strIterType;split
 ·exact Walks.strAscii hh it z t
 ·exact Walks.strWide hh it z t
theorem Jg{P:Program}{w:World}{K:Frag}{tg:Expr}(it:Addr)(z:Str)(t:Tok):Turn P w K tg (Itf (sgn z) z.cps.size) [it] it (λi h=>h.IsStrIter it (strIterType z) z t i) where
 mem:=by simp
 obj:=λi h st b hb=>by
  have e:b=it:=by simpa using hb
  subst e;obtain⟨o,e,c,d⟩:=st;exact⟨o,e,λv z=>by rw[d] at z;cases z⟩
 keep:=λi h h' st k=>let⟨o,e,r⟩:=st;⟨o,k it (by simp) o e,r⟩
 item:=by
  intro X hP hw hK hc i pins s σ H E I hf st hg;subst hP hw hK;obtain⟨f0,f1,f2,f3,f4,f5⟩:=hf it (by simp)
  have W:=vU (P:=X.prog) (w:=X.w) (I.ok.hd hc) it z t;refine W.item i s _ _ hg st λv h' tk hv st' kk=>?_;obtain⟨c,u,hx,rfl⟩:=hv;have I1:Inv X pins σ H { s with heap:=h',toks:=tk }:=I.turned (λb o hb e=>kk b o (by simpa using hb) e) f0 f1 f3 f4 f5
  obtain⟨o,e,cc,d⟩:=id st';have ec:z.cps.getD i 0=c:=by rw[ZaO,hx];rfl
  refine⟨_,rfl,yP (s:={ s with heap:=h',toks:=tk }) e cc d (by unfold strIterType;split<;>decide) ⟨sgn z i,H,I1,⟨u,?_⟩,⟨rfl,rfl⟩,st',λb hb=>(hf b hb).1⟩⟩
  rw[ec]
 done:=by
  intro X hP hw hK hc i pins s σ H E I hf st hg;subst hP hw hK;have hg':i=z.cps.size:=hg;subst hg';obtain⟨f0,f1,f2,f3,f4,f5⟩:=hf it (by simp)
  have W:=vU (P:=X.prog) (w:=X.w) (I.ok.hd hc) it z t;exact W.done s _ _ st λh' tk kk=>⟨rfl,I.turned (λb o hb e=>kk b o (by simpa using hb) e) f0 f1 f3 f4 f5⟩
 self:=λA i s Q E st h=>by
  unfold strIterType at st;split at st
  ·exact wpAny_pyIter_striter_ascii st h
  ·exact wpAny_pyIter_striter_wide st h
def Ite(K:Frag)(a:Addr):It:=
 ⟨λi H=>∃ xs x,SqL K H a xs/\xs[i]?=some x,λi H x H'=>∃ p y,H p=none/\x=.ref p/\H'=upd H p (.tup [.int i,y])/\∀ xs,SqL K H a xs->xs[i]?=some y,λi H=>∃ xs,SqL K H a xs/\xs.length<=i⟩
theorem Ha{P:Program}{w:World}{K:Frag}{elts:List Expr}{x1:Nat}{pos:Pos}(a e it:Addr)(hei:e≠it) :
  Turn P w K (.Tuple elts x1 pos) (Ite K a) [e,it] e (λi h=>(∃ old,IsEnum h e it (i:Int) old)/\h.IsListIter it a i) where
 mem:=by simp
 obj:=λi h st b hb=>by
  obtain⟨⟨old,he⟩,o,ho,c,d⟩:=st;rcases Zay.mp hb with z|z
  ·subst z;exact⟨_,he,λv q=>by cases q⟩
  ·have z:b=it:=by simpa using z
   subst z;exact⟨o,ho,λv q=>by rw[d] at q;cases q⟩
 keep:=λi h h' st k=>by
  obtain⟨⟨old,he⟩,hit⟩:=st;exact⟨⟨old,k e (by simp) _ he⟩,hit.at λo q=>k it (by simp) o q⟩
 item:=by
  intro X hP hw hK hc i pins s σ H E I hf st hg;subst hP hw hK;obtain⟨xs,x,hq,hx⟩:=hg;obtain⟨its,rv,p,hz⟩:=I.list hq;obtain⟨u,hu,ru⟩:=rv.get hx;obtain⟨⟨old,he⟩,hit⟩:=st;have hl:=p.isList;have hai:a≠it:=by
   rintro rfl;obtain⟨o1,e1,c1,_⟩:=hl;obtain⟨o2,e2,c2,_⟩:=hit;rw[e1] at e2;cases e2;rw[c1] at c2;exact absurd c2 (by decide)
  have hae:a≠e:=by
   rintro rfl;obtain⟨o1,e1,c1,_⟩:=hl;rw[he] at e1;cases e1;exact absurd (show Value.type "enumerate"=Value.type "list" from c1) (by decide)
  have D:=Draws.list (prog:=X.prog) (w:=X.w) (A:=X.A.in1) (I.ok.hd hc) it a hai its.toArray;have hlt:i<its.toArray.size:=by
   have:=(ZaB.mp hu).1;simpa using this
  refine wpAny_pyNext_enum_itemD D he ⟨hit,hl⟩ hlt hei (by simp[hei,Zbs hae]) λv h1 tk hP ho hst hT hsz hk=>?_
  have ev:v=u:=by
   have hP':its.toArray[i]?=some v:=hP;rw[List.getElem?_toArray,hu] at hP';exact(Zah hP').symm
  subst ev;refine⟨_,rfl,wpAny_letOwnedTupleGo_enum ho λh2 he2 hs2=>?_⟩;have elt:e<s.heap.objs.size:=Zaq he;have hT2:h2.get? s.heap.objs.size=some { cls:=.type "tuple",data:=.seq #[.int i tk,v] }:=(hs2.2 _ (Zb1 elt)).trans hT;refine⟨.ref s.heap.objs.size,upd H s.heap.objs.size (.tup [.int i,x]),I.vR (ch:=[e,it]) (λb o hb q=>?_) hf (Zaf _) ⟨by show 2<=sizeLine;decide,[.int i tk,v],.cons ⟨tk,rfl⟩ (.cons ru .nil),fu.mk hT2⟩,rfl,⟨_,x,I.hok.fresh (Zaf _),rfl,rfl,λys hy=>by rw[I.tX hy hq];exact hx⟩,⟨⟨v,by simpa using he2⟩,?_⟩,λb hb=>?_⟩
  ·have h1':b≠e:=λz=>hb (by simp[z])
   have h2':b≠it:=λz=>hb (by simp[z])
   exact(hs2.2 b h1').trans (hk b o h1' h2' q)
  ·exact hst.1.at λo q=>(hs2.2 it (Zbs hei)).trans q
  ·rw[aq ?_]
   ·exact(hf b hb).1
   ·rcases Zay.mp hb with z|z
    ·rw[z];exact Zaz elt
    ·have z:b=it:=by simpa using z
     rw[z];obtain⟨o2,e2,_⟩:=hit;exact Zaz (Zaq e2)
 done:=by
  intro X hP hw hK hc i pins s σ H E I hf st hg;subst hP hw hK;obtain⟨xs,hq,hx⟩:=hg;obtain⟨its,rv,p,hz⟩:=I.list hq;obtain⟨⟨old,he⟩,hit⟩:=st;have hl:=p.isList;have ln:=rv.length;refine wpAny_pyNext_enum_end (I.ok.hd hc) he hit hl (by rw[List.getElem?_toArray];exact List.getElem?_eq_none_iff.mpr (by omega)) λh1 eb=>⟨rfl,?_⟩
  exact I.nA (t':=s.toks) (ch:=[e,it]) (λb o hb q=>eb b o (λz=>hb (by simp[z])) q) hf
 self:=λA i s Q E st h=>by
  obtain⟨⟨old,he⟩,_⟩:=st;exact wpAny_pyIter_enum he h
def Qe(K:Frag)(ta:TA):TI:=λσ H R=>ta σ H λvs H1=>∃ a,vs=[.ref a]/\(∃ xs,SqL K H1 a xs)/\R (Ite K a) H1
theorem El{X:Cx}{l:Expr}{ta:TA}{elts:List Expr}{x1:Nat}{tpos p pos:Pos}(hg:Gl X "enumerate")(hm:X.mg "enumerate"=none)(ha:PA X [l] ta)(hs:starEach [l] X.env=[(false,eval l X.env)]:=by rfl) :
  PI X (.Tuple elts x1 tpos) (.Call (.Name "enumerate" p) [l] [] pos) (Qe X.K ta):=by
 intro pins s σ H R I h;refine Call_ (qT I hg hm boot_enumerate (PyProof.Rows.callWith_type1 (thn (ha pos pins s σ H _ I h) ?_) hs rfl));rintro us s1 ⟨vs,H1,I1,r1,q1⟩;obtain⟨a,e,⟨xs,hq⟩,q⟩:=q1;subst e;cases r1 with
 |cons r rr=>
  cases rr;cases r;obtain⟨its,rv,p,hz⟩:=I1.list hq;refine call_enumerate_list p.isList λh1 he hit hsz hk=>?_;refine wpAny_pyIter_enum he ?_;have I2:Inv X pins σ H1 { s1 with heap:=h1 }:=I1.kept (t':=s1.toks) hk;refine⟨s1.heap.objs.size+1,[s1.heap.objs.size+1,s1.heap.objs.size],_,_,H1,rfl,I2,Ha a _ _ (by simp),⟨⟨_,he⟩,hit⟩,λb hb=>?_,q⟩
  rcases Zay.mp hb with z|z
  ·subst z;exact I1.tZ (Nat.le_succ _) (I1.hok.fresh (Nat.le_succ _))
  ·have z:b=s1.heap.objs.size:=by simpa using z
   subst z;exact I1.tZ (Zaf _) (I1.hok.fresh (Zaf _))
section
variable{X:Cx}{c e:Expr}
theorem Em:∀ {ys:List Str}{us:List Value},Vals (ys.map V.str) us->StrsAre us ys
 |[],us,r=>by rw[List.map_nil] at r;cases r;exact .nil
 |y::ys,us,r=>by
  rw[Zas] at r;cases r with
  |cons r1 r2=>
   obtain⟨t,e⟩:=r1;subst e;exact .cons y t (Em r2)
def Td:V->Option Int->Option Int->Hp->VK->Prop:=λx lo hi H Q=>∃ z,x=.str z/\z.length<=sizeLine/\Q (.str (Txt.slice z lo hi)) H
theorem Jh:SlR X Td:=by
 intro pins s σ H x v vl vu lo hi sl Q I rx hs pl pu h;obtain⟨z,rfl,hz,q⟩:=h;obtain⟨t,rfl⟩:=rx;obtain⟨o,e,c,d⟩:=hs;refine⟨"str",_,F.slot_str_getitem.lookup,typeIs_str _ _ _,?_⟩;have fin:∀ t' k,EP X pins σ Q (.str (Txt.slice z lo hi) t') { s with toks:=k }:=λt' k=>⟨.str _,H,I.tok _,⟨t',rfl⟩,q⟩;cases pl with
 |none=>
  cases pu with
  |none=>exact wpAny_getItem_str_slice (l:=none) (u:=none) (st:=none) ⟨o,e,c,d⟩ rfl (post_val_or_str ⟨ZaX (Txt.slice_le z _ _) hz,fin⟩)
  |int j u=>exact wpAny_getItem_str_slice (l:=none) (u:=some (j,u)) (st:=none) ⟨o,e,c,d⟩ rfl (post_val_or_str ⟨ZaX (Txt.slice_le z _ _) hz,fin⟩)
 |int i t2=>
  cases pu with
  |none=>exact wpAny_getItem_str_slice (l:=some (i,t2)) (u:=none) (st:=none) ⟨o,e,c,d⟩ rfl (post_val_or_str ⟨ZaX (Txt.slice_le z _ _) hz,fin⟩)
  |int j u=>exact wpAny_getItem_str_slice (l:=some (i,t2)) (u:=some (j,u)) (st:=none) ⟨o,e,c,d⟩ rfl (post_val_or_str ⟨ZaX (Txt.slice_le z _ _) hz,fin⟩)
end
structure bO(K:Frag)(mg:Str->Option Value)(x:Str)(st:Stmt)(ps:List Str):Prop where
 ex:∃ (f:Addr) (fd:FuncData),mg x=some (.ref f)/\Fun K x x st f fd/\Binds K fd ps []
def FnAt(P:Program)(w:World)(K:Frag)(mg:Str->Option Value)(base:Heap)(x:Str)(k:Nat)(ps:List Str)(sp:Sp):Prop:=
 ∃ (f:Addr) (fd:FuncData),mg x=some (.ref f)/\keepIn K (.ref f)=true/\Binds K fd ps []/\vf P w K mg base CX0 k f fd ps sp
theorem bO.ok{P:Program}{w:World}{K:Frag}{mg:Str->Option Value}{base:Heap}{x:Str}{st:Stmt}{ps N:List Str}{k:Nat}{sp:Sp}(D:bO K mg x st ps)(S:bN N ps (aM st))(len:∀ vs H Q E,sp vs H Q E->vs.length=ps.length)
  (hbody:∀ (f:Addr) (cdv:Value) (A:Around) (outer:List Env) (s:Shared) (H:Hp) (vs:List V) (Q:VK) (E:XK),dN k (A.deeper (envOfC x (aM st) s.heap.objs.size f cdv))->sp vs H Q E ->
   ∃ t,PSs (By CX0 P w K mg base N x (aM st) f cdv A outer s H E).nox (bu st) t/\t { nx:=λ_ H'=>Q .non H',rt:=Q } (start N vs) H):FnAt P w K mg base x (k+1) ps sp:=by
 obtain⟨f,fd,e,F,b⟩:=D.ex;exact⟨f,fd,e,F.kp,b,F.ok S len λcdv A outer s H vs Q E=>hbody f cdv A outer s H vs Q E⟩
section
variable{X:Cx}{k:Nat}{ps:List Str}{sp:Sp}{x:Str}{p pos:Pos}{e:Expr}{es:List Expr}{t:TA}
theorem aU(G:FnAt X.prog X.w X.K X.mg X.base x k ps sp)(hr:dN k X.A)(hg:Gl X x)(ha:PA X (e::es) t)(hdb:(x==("__debug__":Str))=false:=by decide)
  (he:starEach (e::es) X.env=(false,eval e X.env)::starEach es X.env:=by rfl)(hpl:(backTo pos (starEach es X.env)).any (·.1)=false:=by rfl):PE X (.Call (.Name x p) (e::es) [] pos) (vM sp [] E0 t):=by
 obtain⟨f,fd,e1,e2,e3,e4⟩:=G;exact Mr e4 hr hg e1 e2 e3 .nil Qd ha hdb he hpl
end
section
variable{X:Cx}{N:List Str}{scope:Scope}{cl:List (Str×Addr)}{C:Addr}{s2:Shared}{H2:Hp}{fp:List Addr}{x:Str}{pos:Pos}
theorem pvl(i:Nat)(hN:N[i]?=some x:=by rfl)(hv:scope.names.lookup x=some .local:=by rfl)(hd:(x==("__debug__":Str))=false:=by decide)(hcd:(x==("__classdict__":Str))=false:=by decide) :
  PE (X.comp N scope cl C s2 H2 fp) (.Name x pos) (pJ i):=Bo hN (.inl (iB (by decide) hv)) hd hcd
theorem pvf(i:Nat)(hN:N[i]?=some x:=by rfl)(hv:scope.names.lookup x=some .free:=by rfl)(hd:(x==("__debug__":Str))=false:=by decide)(hcd:(x==("__classdict__":Str))=false:=by decide) :
  PE (X.comp N scope cl C s2 H2 fp) (.Name x pos) (pJ i):=Bo hN (.inr (pO hv)) hd hcd
theorem glc(h:scope.names.lookup x=some .globalImplicit):Gl (X.comp N scope cl C s2 H2 fp) x:=iB (by decide) h
theorem fP{i:Nat}(hN:N.Nodup)(hi:N[i]?=some x)(hx:scope.names.lookup x=some .local):PG (X.comp N scope cl C s2 H2 fp) (.Name x pos) (tY i):=
 bM hN hi (.inl (iB (by decide) hx)) (.inr (iB (by decide) hx))
end
section
variable{X:Cx}{x:Str}{pos:Pos}
theorem Ji{n:String}(hg:Gl X x)(hm:X.mg x=none)(hv:bootBuiltins x=some (.type n))(hn:x≠"__name__":=by decide)(hd:(x==("__debug__":Str))=false:=by decide):PE X (.Name x pos) (tC (.ty n)):=
 Mm hg hm hv rfl hn hd
end
theorem tyL{K:Frag}{H:Hp}{p:Addr}{xs:List V}(h:H p=some (.lst xs)):tyV K "list" (.ref p) H:=.inl ⟨rfl,xs,SqL.of h⟩
theorem d7{H:Hp}{p:Addr}{o:HO}(h:H p=none):aR H (upd H p o):=λb u e=>by rw[aq (aW e h)];exact e
theorem Hb{H H1:Hp}{p:Addr}{o:HO}(h:H p=none)(s:aR H H1):aR H (upd H1 p o):=λb u e=>by rw[aq (aW e h)];exact s b u e
theorem aR.tup{K:Frag}{H H':Hp}{a:Addr}{xs:List V}(e:aR H H')(h:SqT K H a xs):SqT K H' a xs:=by
 rcases h with(h|⟨o,h⟩)|h
 ·exact .inl (.inl (e _ _ h))
 ·exact .inl (.inr ⟨o,e _ _ h⟩)
 ·exact .inr h
theorem pP{α:Type}{xs:List α}{i:Int}(h0:0<=i)(h:i<xs.length):∃ v,atI xs i=some v/\xs[i.toNat]?=some v:=by
 have hl:i.toNat<xs.length:=by lia
 refine⟨xs[i.toNat],?_,by simp[hl]⟩
 have:=gB (xs:=xs) (j:=i.toNat) (v:=xs[i.toNat]) (by simp[hl])
 rwa [ZbC h0] at this
theorem Jj{K:Frag}{T:String}:PySem.W.kitOne K (.type T) (.type T)=some true:=by
 unfold PySem.W.kitOne;rw[Zal (by simp)]
def Us(J:It)(g:TG)(tb:TS)(D:Ends)(σ:St)(H:Hp):Prop:=∃ W:Nat->Nat->St->Hp->Prop,(∃ m,W 0 m σ H)/\∀ i m σ H,W i m σ H ->
 (J.stop i H/\D.nx σ H)\/(J.go i H/\∃ N:St->Hp->Prop,(∀ σ' H',N σ' H'->∃ m',m'<m/\W (i+1) m' σ' H')/\∀ x H',J.yld i H x H'->g x σ H' λσ2 H2=>tb { D with nx:=N,ct:=N,bk:=D.nx } σ2 H2)
def SameBut(p:Addr)(H H':Hp):Prop:=∀ b o,H b=some o->b≠p->H' b=some o
theorem SameBut.refl(p:Addr)(H:Hp):SameBut p H H:=λ_ _ e _=>e
section
variable{X:Cx}{N:List Str}{scope:Scope}{cl:List (Str×Addr)}{C:Addr}{s2:Shared}{H2:Hp}{fp:List Addr}
theorem vm:fL (X.comp N scope cl C s2 H2 fp) (.type "list") (λxs H Q=>∃ p ys,xs=[.ref p]/\(SqL X.K H p ys\/SqT X.K H p ys)/\∀ l,H l=none->Q (.ref l) (upd H l (.lst ys))):=xf
theorem My{es:List Expr}{k:Nat}{t:TGs}{n:Nat}{pos:Pos}(hc:X.calm=true)(h:PGs (X.comp N scope cl C s2 H2 fp) es t)
  (hn:(assignEach es (X.comp N scope cl C s2 H2 fp).env).length=n:=by rfl)(hst:(assignEach es (X.comp N scope cl C s2 H2 fp).env).findIdx? (·.1)=none:=by rfl):PG (X.comp N scope cl C s2 H2 fp) (.Tuple es k pos) (QC X.K n t):=qU hc h hn hst
end
section
theorem pQ{xs:List V}{its:List Value}(r:Vals xs its){j:Nat}(h:j<its.toArray.size):∃ x,xs[j]?=some x/\RelV x its.toArray[j]:=by
 have hl:j<its.length:=by simpa using h
 have hx:j<xs.length:=by rw[r.length];exact hl
 obtain⟨u,hu,ru⟩:=r.get (i:=j) (x:=xs[j]) (by simp[hx])
 refine⟨xs[j],by simp[hx],?_⟩
 have:its.toArray[j]=u:=by
  rw[Zaa hl] at hu;simpa using hu
 rw[this];exact ru
end
section
variable{k:Nat}
theorem BL{A:Around}(hr:dN k A):A.units+32<cLine:=Nat.lt_of_le_of_lt (Nat.add_le_add_left (by decide:32<=64) _) hr.units
end
def xm(H:Hp)(xs:List V)(ps:List (Int×Int)):Prop:=xs.length=ps.length/\∀ (j:Nat) (c:Int×Int),ps[j]?=some c->∃ a,xs[j]?=some (.ref a)/\H a=some (.tup [.int c.1,.int c.2])
section
variable{κ:Type}[DecidableEq κ]
def gR(kvs:List (κ×V))(k:κ):Option V:=(kvs.find? λkv=>decide (kv.1=k)).map (·.2)
def putK(kvs:List (κ×V))(k:κ)(v:V):List (κ×V):=
 if(kvs.any λkv=>decide (kv.1=k))=true then kvs.map (λkv=>if kv.1=k then(kv.1,v) else kv) else kvs++[(k,v)]
theorem lN{p:κ×V}{r:List (κ×V)}{k:κ}(e:p.1=k):gR (p::r) k=some p.2:=by simp[gR,ZbK,e]
theorem jc{p:κ×V}{r:List (κ×V)}{k:κ}(e:¬p.1=k):gR (p::r) k=gR r k:=by simp[gR,ZbK,e]
theorem uc(k:κ):∀ kvs:List (κ×V),(kvs.any λkv=>decide (kv.1=k))=(gR kvs k).isSome
 |[]=>rfl
 |p::r=>by
  rw[ZbO];by_cases e:p.1=k
  ·simp only[lN e,ZaD e,Bool.true_or,Option.isSome_some]
  ·rw[jc e,ZaH e,Bool.false_or];exact uc k r
theorem gH(kvs:List (κ×V))(k:κ)(v:V):(putK kvs k v).length<=kvs.length+1:=by
 unfold putK;split
 ·rw[List.length_map];omega
 ·rw[List.length_append,ZaN,List.length_nil];omega
theorem Jk{kvs:List (κ×V)}{k:κ}(v:V)(h:gR kvs k=none):putK kvs k v=kvs++[(k,v)]:=by
 unfold putK;rw[uc,h];exact Zak (by decide)
theorem qQ.qZ{o:Option V}{u:Option Value}(r:qQ o u):o.isSome=u.isSome:=by
 cases o with
 |none=>cases u with
  |none=>rfl
  |some _=>exact(show False from r).elim
 |some _=>cases u with
  |none=>exact(show False from r).elim
  |some _=>rfl
theorem qQ.getD{o:Option V}{u:Option Value}{d:V}{d':Value}(r:qQ o u)(rd:RelV d d'):RelV (o.getD d) (u.getD d'):=by
 cases o with
 |none=>cases u with
  |none=>exact rd
  |some _=>exact(show False from r).elim
 |some _=>cases u with
  |none=>exact(show False from r).elim
  |some _=>exact r
theorem KV.val{kvs:List (κ×V)}{vs:List (κ×Value)}(r:KV kvs vs)(k:κ):qQ (gR kvs k) (valueAt vs k):=by
 unfold KV at r;induction r with
 |nil=>exact True.intro
 |@cons p q ps qs h t ih=>
  obtain⟨h1,h2⟩:=h;by_cases e:p.1=k
  ·have e':q.1=k:=h1.symm.trans e;have b:valueAt (q::qs) k=some q.2:=by simp[valueAt,ZbK,e']
   rw[lN e,b];exact h2
  ·have e':¬q.1=k:=λz=>e (h1.trans z);have b:valueAt (q::qs) k=valueAt qs k:=by simp[valueAt,ZbK,e']
   rw[jc e,b];exact ih
theorem KV.any{kvs:List (κ×V)}{vs:List (κ×Value)}(r:KV kvs vs)(k:κ):(kvs.any λkv=>decide (kv.1=k))=vs.any λkv=>decide (kv.1=k):=by
 unfold KV at r;induction r with
 |nil=>rfl
 |cons h t ih=>rw[ZbO,ZbO,ih,h.1]
theorem KV.repl{kvs:List (κ×V)}{vs:List (κ×Value)}(r:KV kvs vs)(k:κ){y:V}{u:Value}(ry:RelV y u) :
  KV (kvs.map λkv=>if kv.1=k then(kv.1,y) else kv) (vs.map λkv=>if kv.1=k then(kv.1,u) else kv):=by
 unfold KV at r ⊢;induction r with
 |nil=>exact .nil
 |@cons p q ps qs h t ih=>
  rw[Zas,Zas];refine .cons ?_ ih;obtain⟨h1,h2⟩:=h;by_cases e:p.1=k
  ·rw[Zal e,Zal (h1.symm.trans e)];exact⟨h1,ry⟩
  ·rw[Zak e,Zak (λz=>e (h1.trans z))];exact⟨h1,h2⟩
theorem KV.put{kvs:List (κ×V)}{vs:List (κ×Value)}(r:KV kvs vs)(k:κ){y:V}{u:Value}(ry:RelV y u):KV (putK kvs k y) (stored vs k u):=by
 unfold putK stored;rw[r.any k];by_cases e:(vs.any λkv=>decide (kv.1=k))=true
 ·rw[Zal e,Zal e];exact r.repl k ry
 ·rw[Zak e,Zak e];exact Paired.snoc r ⟨rfl,ry⟩
theorem KV.keys{kvs:List (κ×V)}{vs:List (κ×Value)}(r:KV kvs vs):kvs.map (·.1)=vs.map (·.1):=by
 unfold KV at r;induction r with
 |nil=>rfl
 |cons h t ih=>rw[Zas,Zas,ih,h.1]
theorem KV.length{kvs:List (κ×V)}{vs:List (κ×Value)}(r:KV kvs vs):kvs.length=vs.length:=Paired.length r
end
theorem ud{P:Program}{w:World}{k:Key}{u:Value}(r:RelV (kV k) u):(bx P w).is k u=true:=by
 cases k with
 |inl i=>obtain⟨t,e⟩:=(show ∃ t,u=Value.int i t from r);subst e;exact yL P w i t
 |inr x=>obtain⟨t,e⟩:=(show ∃ t,u=Value.str x t from r);subst e;exact yM P w x t
theorem vV{P:Program}{w:World}:∀ {ks:List Key}{us:List Value},Vals (ks.map kV) us->ItemsAre (bx P w) ks us
 |[],_,r=>by rw[List.map_nil] at r;cases r;exact .nil
 |k::ks,_,r=>by
  rw[Zas] at r;cases r with
  |cons h t=>exact .cons (ud h) (vV t)
noncomputable abbrev KT(H:Hp):List (List Key×V)->List (List Key×Addr×Value)->Prop:=Paired λp q=>p.1=q.1/\H q.2.1=some (.tup (p.1.map kV))/\RelV p.2 q.2.2
theorem KT.val{H:Hp}{kvs:List (List Key×V)}{xs:List (List Key×Addr×Value)}(r:KT H kvs xs)(k:List Key):qQ (gR kvs k) ((atKey xs k).map (·.2)):=by
 induction r with
 |nil=>exact True.intro
 |@cons p q ps qs h t ih=>
  obtain⟨h1,_,h2⟩:=h;by_cases e:p.1=k
  ·have e':q.1=k:=h1.symm.trans e;have b:atKey (q::qs) k=some q.2:=by simp[atKey,ZbK,e']
   rw[lN e,b];exact h2
  ·have e':¬q.1=k:=λz=>e (h1.trans z);have b:atKey (q::qs) k=atKey qs k:=by simp[atKey,ZbK,e']
   rw[jc e,b];exact ih
theorem KT.repl{H:Hp}{kvs:List (List Key×V)}{xs:List (List Key×Addr×Value)}(r:KT H kvs xs)(k:List Key){y:V}{u:Value}(ry:RelV y u) :
  KT H (kvs.map λkv=>if kv.1=k then(kv.1,y) else kv) (xs.map (putAt k u)):=by
 induction r with
 |nil=>exact .nil
 |@cons p q ps qs h t ih=>
  rw[Zas,Zas];refine .cons ?_ ih;obtain⟨h1,h2,h3⟩:=h;unfold putAt;by_cases e:p.1=k
  ·rw[Zal e,Zal (h1.symm.trans e)];exact⟨h1,h2,ry⟩
  ·rw[Zak e,Zak (λz=>e (h1.trans z))];exact⟨h1,h2,h3⟩
theorem KT.put{H:Hp}{kvs:List (List Key×V)}{xs:List (List Key×Addr×Value)}(r:KT H kvs xs)(k:List Key){b:Addr}{y:V}{u:Value}(hb:H b=some (.tup (k.map kV)))(ry:RelV y u) :
  KT H (putK kvs k y) (storedH xs k b u):=by
 have e:(kvs.any λkv=>decide (kv.1=k))=(atKey xs k).isSome:=by
  rw[uc,(r.val k).qZ,Option.isSome_map]
 unfold putK storedH;rw[e];by_cases q:(atKey xs k).isSome=true
 ·rw[Zal q,Zal q];exact r.repl k ry
 ·rw[Zak q,Zak q];exact Paired.snoc r ⟨rfl,hb,ry⟩
theorem KT.keeps{H H':Hp}{kvs:List (List Key×V)}{xs:List (List Key×Addr×Value)}(r:KT H kvs xs)(ht:∀ b ys,H b=some (.tup ys)->H' b=some (.tup ys)):KT H' kvs xs:=
 Paired.Qz r λ_ _ z=>⟨z.1,ht _ _ z.2.1,z.2.2⟩
section
variable{P:Program}{w:World}{H:Hp}{h:Heap}{a:Addr}
theorem Qf{u:HO}(ok:HOk P w H h)(e:Rd H a u):cL P w H h a u:=e.ok ok
theorem oG{kvs:List (Key×V)}(ok:HOk P w H h)(e:Rd H a (.dK kvs)):kvs.length<=sizeLine/\(a==sysModules)=false/\∃ vs,KV kvs vs/\h.DictOf (bx P w) a vs:=
 show cL P w H h a (.dK kvs) from Qf ok e
theorem Jl{kvs:List (Key×V)}(ok:HOk P w H h)(e:H a=some (.dK kvs)):kvs.length<=sizeLine/\(a==sysModules)=false/\∃ vs,KV kvs vs/\h.DictOf (bx P w) a vs:=oG ok (.inl e)
theorem q9{ks:List Key}(ok:HOk P w H h)(e:H a=some (.tup (ks.map kV))):(tupleKind (bx P w)).is h ks a:=by
 obtain⟨_,its,r,⟨o,h1,h2,n,h3⟩,_⟩:=(show cL P w H h a (.tup (ks.map kV)) from ok a _ e);exact⟨o,its.toArray,n,h1,h2,h3,by simpa using vV r⟩
theorem vW{kvs:List (List Key×V)}(ok:HOk P w H h)(e:Rd H a (.dT kvs)):kvs.length<=sizeLine/\(a==sysModules)=false /\
  ∃ xs,KT H kvs xs/\h.DictOfH (tupleKind (bx P w)) a xs:=by
 obtain⟨z,y,xs,r,o,es,ep,h1,h2,h3,h4,h5⟩:=(show cL P w H h a (.dT kvs) from Qf ok e);refine⟨z,y,xs,r,o,es,ep,h1,h2,h3,h4,λx hx=>?_,h5⟩;have all:∀ {l:List (List Key×V)}{m:List (List Key×Addr×Value)},KT H l m->∀ x∈m,(tupleKind (bx P w)).is h x.1 x.2.1:=by
  intro l m q;induction q with
  |nil=>intro x hx;exact nomatch hx
  |@cons p q ps qs hq t ih=>
   intro x hx;rcases Zay.mp hx with e|hx
   ·subst e;exact q9 ok (by rw[<-hq.1];exact hq.2.1)
   ·exact ih x hx
 exact all r x hx
theorem Qg{kvs:List (List Key×V)}(ok:HOk P w H h)(e:H a=some (.dT kvs)):kvs.length<=sizeLine/\(a==sysModules)=false /\
  ∃ xs,KT H kvs xs/\h.DictOfH (tupleKind (bx P w)) a xs:=vW ok (.inl e)
end
def vo(H:Hp)(a:Addr)(y:V)(r:Option V):Prop:=
 (∃ kvs k,Rd H a (.dK kvs)/\y=kV k/\r=gR kvs k)\/∃ kvs k b,Rd H a (.dT kvs)/\y=.ref b/\H b=some (.tup (k.map kV))/\r=gR kvs k
def pR(H:Hp)(a:Addr)(y v:V)(H':Hp):Prop:=
 (∃ kvs k,H a=some (.dK kvs)/\y=kV k/\kvs.length<sizeLine/\H'=upd H a (.dK (putK kvs k v))) \/
 ∃ kvs k b,H a=some (.dT kvs)/\y=.ref b/\H b=some (.tup (k.map kV))/\kvs.length<sizeLine/\H'=upd H a (.dT (putK kvs k v))
theorem pR.k{H:Hp}{a:Addr}{kvs:List (Key×V)}{k:Key}{v:V}(e:H a=some (.dK kvs))(hl:kvs.length<sizeLine):pR H a (kV k) v (upd H a (.dK (putK kvs k v))):=.inl ⟨kvs,k,e,rfl,hl,rfl⟩
theorem pR.t{H:Hp}{a b:Addr}{kvs:List (List Key×V)}{k:List Key}{v:V}(e:H a=some (.dT kvs))(eb:H b=some (.tup (k.map kV)))(hl:kvs.length<sizeLine) :
  pR H a (.ref b) v (upd H a (.dT (putK kvs k v))):=.inr ⟨kvs,k,b,e,rfl,eb,hl,rfl⟩
section
variable{X:Cx}{pins:List (Addr×Obj)}{σ:St}{H:Hp}{s:Shared}{a:Addr}{y v:V}{u r:Value}{o:Option V}{A:Around}{E:Value->Shared->Prop}
theorem Inv.big(I:Inv X pins σ H s):sysModules<s.heap.objs.size:=by
 have h:mainGlobals<s.heap.objs.size:=(I.mod.glob.keeps I.bk).lt;exact ZbG (by decide) h
theorem Hc{Q:Value->Shared->Prop}(hu:A.units+1<cLine)(I:Inv X pins σ H s)(g:vo H a y (some v))(ry:RelV y u)(h:∀ w' s',Inv X pins σ H s'->RelV v w'->Q w' s') :
  wpAny (model X.prog X.w) A (getItem (.ref a) u) Q E s:=by
 rcases g with⟨kvs,k,e,ey,l⟩|⟨kvs,k,b,e,ey,eb,l⟩
 ·subst ey;obtain⟨z,hd,vs,rel,dd⟩:=oG I.hok e;obtain⟨w',hw,rw'⟩:=qQ.some_of (v:=v) (o:=valueAt vs k) (by rw[l];exact rel.val k)
  exact wpAny_getItem_of (ud ry) dd.mapOf hw (h w' _ (I.tok _) rw')
 ·subst ey;cases (show u=Value.ref b from ry);obtain⟨z,hd,xs,rel,dd⟩:=vW I.hok e;obtain⟨w',hw,rw'⟩:=qQ.some_of (v:=v) (o:=(atKey xs k).map (·.2)) (by rw[l];exact rel.val k)
  obtain⟨p,hp,hp2⟩:=ZbX.mp hw;refine wpAny_getItem_heap (tupleKind_room_in1 hu) (q9 I.hok eb) dd hp ?_;rw[hp2];exact h w' _ (I.tok _) rw'
theorem Mz{Q:Value->Shared->Prop}(hu:A.units+1<cLine)(I:Inv X pins σ H s)(g:vo H a y o)(ry:RelV y u)(h:∀ s',Inv X pins σ H s'->Q (.bool (!o.isSome)) s') :
  wpAny (model X.prog X.w) A (compareOp .NotIn u (.ref a)) Q E s:=by
 rcases g with⟨kvs,k,e,ey,l⟩|⟨kvs,k,b,e,ey,eb,l⟩
 ·subst ey;obtain⟨z,hd,vs,rel,dd⟩:=oG I.hok e;refine wpAny_notIn_of (ud ry) hd dd.mapOf ?_;rw[<-(rel.val k).qZ,<-l];exact h _ (I.tok _)
 ·subst ey;cases (show u=Value.ref b from ry);obtain⟨z,hd,xs,rel,dd⟩:=vW I.hok e;refine wpAny_notIn_heap (tupleKind_room_in1 hu) (q9 I.hok eb) hd dd ?_;have q:=(rel.val k).qZ;rw[Option.isSome_map] at q;rw[<-q,<-l];exact h _ (I.tok _)
theorem pU{h':Heap}{t':Nat}{ob:HO}(I:Inv X pins σ H s)(mu:Mut (H a))(hs:Heap.SameBut a s.heap h')(he:∃ q,h'.get? a=some q)(new:cL X.prog X.w (upd H a ob) h' a ob) :
  Inv X pins σ (upd H a ob) { s with heap:=h',toks:=t' }:=
 I.write (x:=a) (e:=a) mu (.inl rfl) (λb q hb z=>(hs.2 b hb).trans z) he new
theorem BP{P:Program}{w:World}{H':Hp}{h':Heap}{kvs:List (Key×V)}{vs:List (Key×Value)}(z:kvs.length<=sizeLine)(hd:(a==sysModules)=false)(rel:KV kvs vs)(dd:h'.DictOf (bx P w) a vs) :
  cL P w H' h' a (.dK kvs):=⟨z,hd,vs,rel,dd⟩
theorem Hd{H':Hp}{Q:Unit->Shared->Prop}(hu:A.units+1<cLine)(I:Inv X pins σ H s)(g:pR H a y v H')(ry:RelV y u)(rv:RelV v r)(h:∀ s',Inv X pins σ H' s'->Q () s') :
  wpAny (model X.prog X.w) A (setItem (.ref a) u r) Q E s:=by
 rcases g with⟨kvs,k,e,ey,l,eH⟩|⟨kvs,k,b,e,ey,eb,l,eH⟩
 ·subst ey eH;obtain⟨z,hd,vs,rel,dd⟩:=Jl I.hok e;have hz:vs.length<=sizeLine:=by rw[<-rel.length];exact z
  have hl:(putK kvs k v).length<=sizeLine:=by have:=gH kvs k v;lia
  refine wpAny_setItem_pairs (hsz:=hz) (ud ry) dd λh' dd' hs=>h _ ?_;have he:∃ q,h'.get? a=some q:=let⟨q,_,_,hq,_⟩:=dd';⟨q,hq⟩;exact pU I (by rw[e];exact True.intro) hs he (BP hl hd (rel.put k rv) dd')
 ·subst ey eH;cases (show u=Value.ref b from ry);obtain⟨z,hd,xs,rel,dd⟩:=Qg I.hok e;have hz:xs.length<=sizeLine:=by rw[<-Paired.length rel];exact z
  have hl:(putK kvs k v).length<=sizeLine:=by have:=gH kvs k v;lia
  refine wpAny_setItem_heap (hsz:=hz) (tupleKind_room_in1 hu) (q9 I.hok eb) dd λh' dd' hs=>h _ ?_;obtain⟨q,es,ep,hq,h2,h3,h4,_,h5⟩:=dd';refine pU I (by rw[e];exact True.intro) hs ⟨q,hq⟩ ⟨hl,hd,_,(rel.put k eb rv).keeps λc ys ec=>?_,q,es,ep,hq,h2,h3,h4,h5⟩
  rw[aq (PK ec e (λz=>nomatch z))];exact ec
end
section
variable{X:Cx}{pins:List (Addr×Obj)}{σ:St}{H:Hp}{s:Shared}{a:Addr}{kvs:List (Key×V)}{A:Around}{E:Value->Shared->Prop}
theorem Te{Q:Value->Shared->Prop}(I:Inv X pins σ H s)(e:Rd H a (.dK kvs))(h:∀ t s',Inv X pins σ H s'->Q (.int kvs.length t) s'):wpAny (model X.prog X.w) A (call (.builtin "len") [.ref a]) Q E s:=by
 obtain⟨z,hd,vs,rel,dd⟩:=oG I.hok e;refine call_len_dict hd dd (by rw[<-rel.length];rw[sizeLine_eq] at z;omega) ?_
 rw[<-rel.length];exact h _ _ (I.tok _)
end
def QT(i:Expr):Prop:=∀ ov iv,subscripted i false ov iv=operate [ov,iv] (getItem ov iv)
theorem MF{prog:Program}{w:World}{A:Around}{E:Value->Shared->Prop}{s:Shared}{env:Env}{value slice:Expr}{pos:Pos}{T id:String}{Q:Value->Shared->Prop}
  (hl:typeLookup (.type T) "__getitem__"=pure (some (.builtin id)))(hs:QT slice)
  (h:wpAny (model prog w) A (eval value env) (λo s₁=>wpAny (model prog w) A (eval slice env) (λi s₂=>s₂.TypeIs o T/\wpAny (model prog w) A (getItem o i) Q E s₂) E s₁) E s) :
  wpAny (model prog w) A (eval (.Subscript value slice pos) env) Q E s:=by
 refine Subscript_ (Zbl h (λo s₁ h₁=>Zbl h₁ (λi s₂ h₂=>?_) λ_ _ x=>x) λ_ _ x=>x);obtain⟨hT,h₂⟩:=h₂;unfold subscriptTail;refine Zab ?_;rw[getitemInPython_of_ne hT.not_modules];refine Zab (wpAny_specialOf hT hl ?_);have fin:wpAny (model prog w) A (subscripted slice false o i) (λr s₃=>wpAny (model prog w) A (letTemporaryGo value o r>>=λ_=>pure r) Q E s₃) E s₂:=by
  rw[hs o i];exact wpAny_operating (Zbl h₂ (λr s₃ h₃=>Zab (wpAny_letTemporaryGo (Zaj h₃))) λ_ _ x=>x)
 first
  |exact Zaj (Zab fin)
  |exact Zab (Zaj (Zab fin))
  |exact Zab fin
theorem za{X:Cx}{pins:List (Addr×Obj)}{σ:St}{H:Hp}{s:Shared}{a:Addr}{y:V}{o:Option V}(I:Inv X pins σ H s)(g:vo H a y o):s.TypeIs (.ref a) "dict":=by
 rcases g with⟨kvs,k,e,_,_⟩|⟨kvs,k,b,e,_,_,_⟩
 ·obtain⟨_,_,vs,_,dd⟩:=oG I.hok e;exact dd.typeIs
 ·obtain⟨_,_,xs,_,dd⟩:=vW I.hok e;exact dd.typeIs
def Jm(td ty:TE):TE:=λσ H Q=>td σ H λx H1=>ty σ H1 λy H2=>∃ a v,x=.ref a/\vo H2 a y (some v)/\Q v H2
def Qh(td ty tv:TE):TS:=λD σ H=>tv σ H λv H1=>td σ H1 λx H2=>ty σ H2 λy H3=>∃ a H4,x=.ref a/\pR H3 a y v H4/\D.nx σ H4
section
variable{X:Cx}{o i value:Expr}{pos pos':Pos}{td ty tv:TE}
theorem MK(hu:X.A.units+1<cLine)(ho:PE X o td)(hi:PE X i ty)(hs:QT i):PE X (.Subscript o i pos) (Jm td ty):=by
 intro pins s σ H Q I h;refine MF PySem.F.slot_dict_getitem.lookup hs (thn (ho pins s σ H _ I h) λu s1 ⟨x,H1,I1,rx,q1⟩=>thn (hi pins s1 σ H1 _ I1 q1) ?_);rintro iv s2 ⟨y,H2,I2,ry,a,v,ex,g,q2⟩;subst ex;obtain rfl:u=Value.ref a:=rx;exact⟨za I2 g,Hc hu I2 g ry λw' s3 I3 rw'=>⟨v,H2,I3,rw',q2⟩⟩
theorem MN(hu:X.A.units+1<cLine)(ho:PE X o td)(hi:PE X i ty)(hv:PE X value tv)(hs:swapsWith value (some (.Subscript o i pos')) pos.line X.env=pure false) :
  PS X (.Assign [.Subscript o i pos'] value pos) (Qh td ty tv):=by
 intro pins s σ H D I h;refine wpAny_Assign_Subscript (thn (hv pins s σ H _ I h) λr s1 ⟨v,H1,I1,rv,q1⟩=>thn (ho pins s1 σ H1 _ I1 q1) λu s2 ⟨x,H2,I2,rx,q2⟩=>thn (hi pins s2 σ H2 _ I2 q2) ?_) hs;rintro iv s3 ⟨y,H3,I3,ry,a,H4,ex,g,q3⟩;subst ex;obtain rfl:u=Value.ref a:=rx;exact Hd hu I3 g ry rv λs4 I4=>⟨σ,H4,I4,q3⟩
end
theorem zb{P:Program}{w:World}{H:Hp}(h:Heap)(hb:sysModules<h.objs.size):cL P w H (h.push { cls:=.type "dict",data:=.dict #[] }) h.objs.size (.dK []):=
 ⟨Zba _,beq_eq_false_iff_ne.mpr (Zbs (Zaz hb)),[],.nil,Heap.DictOf.new h⟩
theorem Jo{P:Program}{w:World}{H:Hp}(h:Heap)(hb:sysModules<h.objs.size):cL P w H (h.push { cls:=.type "dict",data:=.dict #[] }) h.objs.size (.dT []):=
 ⟨Zba _,beq_eq_false_iff_ne.mpr (Zbs (Zaz hb)),[],.nil,_,#[],0,Zam _ rfl,⟨rfl,rfl,rfl⟩,rfl,rfl,List.nodup_nil⟩
def Jp:TE:=λ_ H Q=>∀ p,H p=none->Q (.ref p) (upd H p (.dK []))
section
variable{X:Cx}{pos:Pos}
theorem ue:PE X (.Dict [] [] pos) Jp:=λpins s σ H Q I h=>
 wpAny_Dict_empty ⟨.ref s.heap.objs.size,_,I.laid (a:=s.heap.objs.size) (o:=.dK []) (t':=s.toks) (λ_ _ q=>Zac _ q) (Zaf _) (zb s.heap I.big),rfl,h _ (I.hok.fresh (Zaf _))⟩
end
def Jq:List (TE×TE)->St->Hp->(List (V×V)->Hp->Prop)->Prop
 |[],_,H,Q=>Q [] H
 |(tk,tv)::r,σ,H,Q=>tk σ H λx H1=>tv σ H1 λy H2=>Jq r σ H2 λps H3=>Q ((x,y)::ps) H3
noncomputable abbrev VV:List (V×V)->List (Value×Value)->Prop:=Paired λp q=>RelV p.1 q.1/\RelV p.2 q.2
def PPs(X:Cx)(pos:Pos)(keys:List (Option Expr))(values:List Expr)(trs:List (TE×TE)):Prop:=
 ∀ (pins:List (Addr×Obj)) (s:Shared) (σ:St) (H:Hp) (Q:List (V×V)->Hp->Prop),Inv X pins σ H s->Jq trs σ H Q ->
  wpAny (model X.prog X.w) X.A (evalPairs (pairTrees keys values X.env pos)) (λvs s'=>∃ ps H',Inv X pins σ H' s'/\VV ps vs/\Q ps H') X.xe s
structure M2(X:Cx)(o:Expr)(m:Str)(apos:Pos)(e f:Expr)(cpos:Pos):Prop where
 base:attributeBase o m X.env (eval o X.env)=eval o X.env
 few:((backTo cpos (starEach [e,f] X.env)).all (λx=>!x.1)&&(backToKw cpos (keywordEach [] X.env)).all (λx=>x.1.isSome)
  && decide (([e,f]:List Expr).length+([]:List Keyword).length+(if([]:List Keyword).isEmpty then 0 else 1)<30))=true
 line:(apos.endLine==cpos.line)=true
 trees:backTo cpos (starEach [e,f] X.env)=[(false,eval e X.env),(false,eval f X.env)]
def IsD(H:Hp)(a:Addr):Prop:=(∃ kvs,Rd H a (.dK kvs))\/∃ kvs,Rd H a (.dT kvs)
theorem xn{X:Cx}{pins:List (Addr×Obj)}{σ:St}{H:Hp}{s:Shared}{a:Addr}(I:Inv X pins σ H s)(d:IsD H a) :
  s.TypeIs (.ref a) "dict"/\(∀ b,Value.ref a=.ref b->∃ ob,s.heap.get? b=some ob/\ob.dict=none)/\(a==sysModules)=false:=by
 rcases d with⟨kvs,e⟩|⟨kvs,e⟩
 ·obtain⟨_,hd,vs,_,dd⟩:=oG I.hok e;refine⟨dd.typeIs,λb q=>?_,hd⟩;cases q;obtain⟨ob,_,_,h1,h2,_⟩:=dd;exact⟨ob,h1,h2.2.1⟩
 ·obtain⟨_,hd,xs,_,dd⟩:=vW I.hok e;refine⟨dd.typeIs,λb q=>?_,hd⟩;cases q;obtain⟨ob,_,_,h1,h2,_⟩:=dd;exact⟨ob,h1,h2.2.1⟩
section
variable{X:Cx}{pins:List (Addr×Obj)}{σ:St}{H:Hp}{s:Shared}{a:Addr}{y d:V}{u r:Value}{o:Option V}{A:Around}{E:Value->Shared->Prop}
theorem QV{Q:Value->Shared->Prop}(hu:A.units+1<cLine)(I:Inv X pins σ H s)(g:vo H a y o)(ry:RelV y u)(rd:RelV d r)(h:∀ w' s',Inv X pins σ H s'->RelV (o.getD d) w'->Q w' s') :
  wpAny (model X.prog X.w) A (call (.builtin "dict.get") [.ref a,u,r]) Q E s:=by
 rcases g with⟨kvs,k,e,ey,l⟩|⟨kvs,k,b,e,ey,eb,l⟩
 ·subst ey;obtain⟨z,hd,vs,rel,dd⟩:=oG I.hok e;refine call_meetsIn PySem.F.slot_dict_get dd.typeIs PySem.F.entry_dict_get (PySem.F.args_dict_get_3 _ _ _) (meets_dict_get_default (bx X.prog X.w) a (ud ry) hd r) ⟨_,dd.mapOf,h _ _ (I.tok _) ?_⟩;rw[l];exact(rel.val k).getD rd
 ·subst ey;cases (show u=Value.ref b from ry);obtain⟨z,hd,xs,rel,dd⟩:=vW I.hok e;refine call_meetsIn PySem.F.slot_dict_get dd.typeIs PySem.F.entry_dict_get (PySem.F.args_dict_get_3 _ _ _) (meetsH_dict_get_default (tupleKind (bx X.prog X.w)) a b hd r) ⟨tupleKind_room_in1 hu,k,xs,q9 I.hok eb,dd,h _ _ (I.tok _) ?_⟩;rw[l];exact(rel.val k).getD rd
end
def BR(td ty tx:TE):TE:=λσ H Q=>td σ H λx H1=>∃ a,x=.ref a/\IsD H1 a/\ty σ H1 λy H2=>tx σ H2 λz H3=>∃ o,vo H3 a y o/\Q (o.getD z) H3
section
variable{X:Cx}{o e f:Expr}{apos cpos:Pos}{td ty tx:TE}
theorem Jr(hu:X.A.units+1<cLine)(ho:PE X o td)(he:PE X e ty)(hf:PE X f tx)(m:M2 X o "get" apos e f cpos):PE X (.Call (.Attribute o "get" apos) [e,f] [] cpos) (BR td ty tx):=by
 intro pins s σ H Q I h;refine wpAny_Call_method m.base m.few m.line ZbP PySem.F.slot_dict_get PySem.F.type_dict_get (thn (ho pins s σ H _ I h) ?_);rintro u s1 ⟨x,H1,I1,rx,a,ex,d,q1⟩;subst ex;obtain rfl:u=Value.ref a:=rx;obtain⟨t1,t2,_⟩:=xn I1 d;refine⟨t1,t2,?_⟩;rw[m.trees];refine Calls.callWith_builtin rfl (Calls.evalArgs_plain (Calls.spliced_cons (thn (he pins s1 σ H1 _ I1 q1) λiv s2 ⟨y,H2,I2,ry,q2⟩=>
  Calls.spliced_cons (thn (hf pins s2 σ H2 _ I2 q2) λfv s3 ⟨z,H3,I3,rz,ov,g,q3⟩=>Calls.spliced_nil ?_))))
 exact QV hu I3 g ry rz λw' s4 I4 rw'=>⟨_,H3,I4,rw',q3⟩
end
end L2
namespace L2.MP
open PySem PySem.Spec PyProof.Rows
inductive PV where
 |non|bl (b:Bool)|int (i:Int)|str (x:Str)|ty (n:String)
 |tup (l:List PV)|lst (l:List PV)|dk (l:List (Key×PV))|dt (l:List (List Key×PV))
 |exc (c:Str) (fs:List (Str×PV))
noncomputable instance:Inhabited PV:=⟨.non⟩
def PV.flat:PV->Bool
 |.non|.bl _|.int _|.str _|.ty _=>true
 |_=>false
def BV:Nat->PV->Bool
 |0,p=>p.flat
 |n+1,.tup l=>l.all (BV n)
 |_+1,p=>p.flat
def PV.still(p:PV):Bool:=BV 5 p
inductive Res(α:Type) where
 |ok (a:α)|ex (z:PV)
def bnd{α β:Type}(x:Option (Res α))(k:α->Option (Res β)):Option (Res β):=match x with
 |some (.ok a)=>k a
 |some (.ex z)=>some (.ex z)
 |none=>none
def XO(e C:Addr)(d:Option Addr):HO:=.ext λh=>∃ vs:Array Value,h.get? e=some { cls:=.ref C,dict:=d,data:=.fields vs }
structure XNm(K:Frag)(C:Addr)(c:Str):Prop where
 ns:nsIn K mainGlobals c=some (some (.ref C))
 cl:∃ cd,PySem.W.clsIn K C=some cd/\cd.name=c
inductive Rep(K:Frag)(F:Hp):V->PV->Prop
 |non:Rep K F .non .non
 |bl {b:Bool}:Rep K F (.bl b) (.bl b)
 |int {i:Int}:Rep K F (.int i) (.int i)
 |str {x:Str}:Rep K F (.str x) (.str x)
 |ty {n:String}:Rep K F (.ty n) (.ty n)
 |tup {a:Addr}{xs:List V}{l:List PV} (h:F a=some (.tup xs)) (hl:xs.length=l.length) (hr:∀ (j:Nat) x p,xs[j]?=some x->l[j]?=some p->Rep K F x p):Rep K F (.ref a) (.tup l)
 |lst {a:Addr}{xs:List V}{l:List PV} (h:SqL K F a xs) (hl:xs.length=l.length) (hr:∀ (j:Nat) x p,xs[j]?=some x->l[j]?=some p->Rep K F x p):Rep K F (.ref a) (.lst l)
 |dk {a:Addr}{xs:List (Key×V)}{l:List (Key×PV)} (h:Rd F a (.dK xs)) (hl:xs.map (·.1)=l.map (·.1)) (hr:∀ (j:Nat) x p,xs[j]?=some x->l[j]?=some p->Rep K F x.2 p.2):Rep K F (.ref a) (.dk l)
 |dt {a:Addr}{xs:List (List Key×V)}{l:List (List Key×PV)} (h:Rd F a (.dT xs)) (hl:xs.map (·.1)=l.map (·.1)) (hr:∀ (j:Nat) x p,xs[j]?=some x->l[j]?=some p->Rep K F x.2 p.2):Rep K F (.ref a) (.dt l)
 |exc {a C dx:Addr}{c:Str}{xs:List (Str×V)}{l:List (Str×PV)} (nm:XNm K C c) (h:F a=some (XO a C (some dx))) (hd:F dx=some (.xd xs)) (hl:xs.map (·.1)=l.map (·.1)) (hr:∀ (j:Nat) x p,xs[j]?=some x->l[j]?=some p->Rep K F x.2 p.2):Rep K F (.ref a) (.exc c l)
 |exc0 {a C:Addr}{c:Str} (nm:XNm K C c) (h:F a=some (XO a C none)):Rep K F (.ref a) (.exc c [])
def bG(K:Frag)(F:Hp)(xs:List V)(l:List PV):Prop:=xs.length=l.length/\∀ (j:Nat) x p,xs[j]?=some x->l[j]?=some p->Rep K F x p
section
variable{K:Frag}{F F':Hp}{v:V}{p:PV}{xs ys:List V}{l m:List PV}
theorem _root_.L2.Rd.same{F F':Hp}{a:Addr}{u:HO}(h:Rd F a u)(s:aR F F'):Rd F' a u:=h.imp (s _ _) λ⟨o,e⟩=>⟨o,s _ _ e⟩
theorem Rep.up(h:Rep K F v p)(s:aR F F'):Rep K F' v p:=by
 induction h with
 |non=>exact .non
 |bl=>exact .bl
 |int=>exact .int
 |str=>exact .str
 |ty=>exact .ty
 |tup h hl _ ih=>exact .tup (s _ _ h) hl ih
 |lst h hl _ ih=>exact .lst (s.seq h) hl ih
 |dk h hl _ ih=>exact .dk (h.same s) hl ih
 |dt h hl _ ih=>exact .dt (h.same s) hl ih
 |exc nm h hd hl _ ih=>exact .exc nm (s _ _ h) (s _ _ hd) hl ih
 |exc0 nm h=>exact .exc0 nm (s _ _ h)
theorem bG.up(h:bG K F xs l)(s:aR F F'):bG K F' xs l:=⟨h.1,λj x p a b=>(h.2 j x p a b).up s⟩
theorem Rep.free(h:Rep K F v p)(hf:p.flat=true):Rep K F' v p:=by
 cases h with
 |non=>exact .non
 |bl=>exact .bl
 |int=>exact .int
 |str=>exact .str
 |ty=>exact .ty
 |tup=>cases hf
 |lst=>cases hf
 |dk=>cases hf
 |dt=>cases hf
 |exc=>cases hf
 |exc0=>cases hf
theorem bG.nil:bG K F [] []:=⟨rfl,λj x p h=>by simp at h⟩
theorem bG.cons(h:Rep K F v p)(t:bG K F xs l):bG K F (v::xs) (p::l):=by
 refine⟨by simp[t.1],λj x q a b=>?_⟩
 cases j with
 |zero=>simp at a b;subst a b;exact h
 |succ j=>exact t.2 j x q (by simpa using a) (by simpa using b)
theorem bG.append(h:bG K F xs l)(t:bG K F ys m):bG K F (xs++ys) (l++m):=by
 refine⟨by rw[List.length_append,List.length_append,h.1,t.1],λj x p a b=>?_⟩
 by_cases hj:j<xs.length
 ·rw[ZaF hj] at a;rw[ZaF (by rw[<-h.1];exact hj)] at b
  exact h.2 j x p a b
 ·rw[ZaG (by lia)] at a
  rw[ZaG (by rw[<-h.1];lia),<-h.1] at b
  exact t.2 _ x p a b
theorem bG.snoc(h:bG K F xs l)(t:Rep K F v p):bG K F (xs++[v]) (l++[p]):=h.append (bG.nil.cons t)
theorem bG.get(h:bG K F xs l){j:Nat}(e:l[j]?=some p):∃ x,xs[j]?=some x/\Rep K F x p:=by
 have hj:j<xs.length:=by rw[h.1];exact(ZaB.mp e).1
 exact⟨xs[j],by simp[hj],h.2 j _ p (by simp[hj]) e⟩
theorem bG.got(h:bG K F xs l){j:Nat}(e:xs[j]?=some v):∃ p,l[j]?=some p/\Rep K F v p:=by
 have hj:j<l.length:=by rw[<-h.1];exact(ZaB.mp e).1
 exact⟨l[j],by simp[hj],h.2 j v _ e (by simp[hj])⟩
theorem bG.dB(h:bG K F xs (p::l)):∃ v ys,xs=v::ys/\Rep K F v p/\bG K F ys l:=by
 obtain⟨hl,hr⟩:=h
 match xs,hl,hr with
 |[],hl,_=>simp at hl
 |v::ys,hl,hr=>exact⟨v,ys,rfl,hr 0 v p rfl rfl,by simpa using hl,λj x q a b=>hr (j+1) x q (by simpa using a) (by simpa using b)⟩
theorem bG.iC(h:bG K F xs []):xs=[]:=by
 have:=h.1;simpa using this
theorem bG.xq:∀ (ns:List Int),bG K F (ns.map V.int) (ns.map PV.int)
 |[]=>.nil
 |n::ns=>(bG.xq ns).cons .int
theorem Rep.bf{i:Int}(h:Rep K F v (.int i)):v=.int i:=by cases h;rfl
theorem Rep.j7{b:Bool}(h:Rep K F v (.bl b)):v=.bl b:=by cases h;rfl
theorem Rep.bJ{z:Str}(h:Rep K F v (.str z)):v=.str z:=by cases h;rfl
theorem Rep.fG(h:Rep K F v .non):v=.non:=by cases h;rfl
theorem Rep.QW{n:String}(h:Rep K F v (.ty n)):v=.ty n:=by cases h;rfl
theorem Rep.cg(h:Rep K F v (.tup l)):∃ a xs,v=.ref a/\SqT K F a xs/\bG K F xs l:=by cases h with|tup h hl hr=>exact⟨_,_,rfl,SqT.of h,hl,hr⟩
theorem Rep.lO(h:Rep K F v (.tup l)):∃ a xs,v=.ref a/\F a=some (.tup xs)/\bG K F xs l:=by cases h with|tup h hl hr=>exact⟨_,_,rfl,h,hl,hr⟩
theorem Rep.cj(h:Rep K F v (.lst l)):∃ a xs,v=.ref a/\SqL K F a xs/\bG K F xs l:=by cases h with|lst h hl hr=>exact⟨_,_,rfl,h,hl,hr⟩
end
structure Cf where
 io:Addr->Prop
 nw:Prop
 H0:Hp
 F0:Hp
 E:XK
inductive Sl where
 |sh (p:PV)|ow (p:PV)|dp (p:PV)
noncomputable abbrev Rho:=List (Option Sl)
def Own(K:Frag)(F H:Hp)(a:Addr):PV->Prop
 |.lst l=>∃ xs,H a=some (.lst xs)/\bG K F xs l
 |.dk l=>∃ xs,H a=some (.dK xs)/\xs.map (·.1)=l.map (·.1)/\∀ (j:Nat) x p,xs[j]?=some x->l[j]?=some p->Rep K F x.2 p.2
 |.dt l=>∃ xs,H a=some (.dT xs)/\xs.map (·.1)=l.map (·.1)/\∀ (j:Nat) x p,xs[j]?=some x->l[j]?=some p->Rep K F x.2 p.2
 |_=>False
inductive Dp(K:Frag)(F H:Hp):(Addr->Prop)->V->PV->Prop
 |fr {P:Addr->Prop}{v:V}{p:PV} (h:Rep K F v p) (st:p.still=true):Dp K F H P v p
 |lst {P:Addr->Prop}{S:Nat->Addr->Prop}{a:Addr}{xs:List V}{l:List PV} (h:H a=some (.lst xs)) (hp:P a) (hs:∀ j b,S j b->P b/\b≠a) (dj:∀ i j b,S i b->S j b->i=j) (hl:xs.length=l.length)
   (hr:∀ (j:Nat) x p,xs[j]?=some x->l[j]?=some p->Dp K F H (S j) x p):Dp K F H P (.ref a) (.lst l)
 |tup {P:Addr->Prop}{S:Nat->Addr->Prop}{a:Addr}{xs:List V}{l:List PV} (h:H a=some (.tup xs)) (hs:∀ j b,S j b->P b) (dj:∀ i j b,S i b->S j b->i=j) (hl:xs.length=l.length)
   (hr:∀ (j:Nat) x p,xs[j]?=some x->l[j]?=some p->Dp K F H (S j) x p):Dp K F H P (.ref a) (.tup l)
 |dk {P:Addr->Prop}{S:Nat->Addr->Prop}{a:Addr}{xs:List (Key×V)}{l:List (Key×PV)} (h:H a=some (.dK xs)) (hp:P a) (hs:∀ j b,S j b->P b/\b≠a) (dj:∀ i j b,S i b->S j b->i=j) (hl:xs.map (·.1)=l.map (·.1))
   (hr:∀ (j:Nat) x p,xs[j]?=some x->l[j]?=some p->Dp K F H (S j) x.2 p.2):Dp K F H P (.ref a) (.dk l)
 |dt {P:Addr->Prop}{S:Nat->Addr->Prop}{a:Addr}{xs:List (List Key×V)}{l:List (List Key×PV)} (h:H a=some (.dT xs)) (hp:P a) (hs:∀ j b,S j b->P b/\b≠a) (dj:∀ i j b,S i b->S j b->i=j) (hl:xs.map (·.1)=l.map (·.1))
   (hr:∀ (j:Nat) x p,xs[j]?=some x->l[j]?=some p->Dp K F H (S j) x.2 p.2):Dp K F H P (.ref a) (.dt l)
section
variable{K:Frag}{F F' H H':Hp}{v:V}{p:PV}{P P':Addr->Prop}
theorem Dp.mono(h:Dp K F H P v p)(m:∀ b,P b->P' b):Dp K F H P' v p:=by
 cases h with
 |fr h st=>exact .fr h st
 |lst h hp hs dj hl hr=>exact .lst h (m _ hp) (λj b q=>⟨m _ (hs j b q).1,(hs j b q).2⟩) dj hl hr
 |tup h hs dj hl hr=>exact .tup h (λj b q=>m _ (hs j b q)) dj hl hr
 |dk h hp hs dj hl hr=>exact .dk h (m _ hp) (λj b q=>⟨m _ (hs j b q).1,(hs j b q).2⟩) dj hl hr
 |dt h hp hs dj hl hr=>exact .dt h (m _ hp) (λj b q=>⟨m _ (hs j b q).1,(hs j b q).2⟩) dj hl hr
theorem Dp.up(h:Dp K F H P v p)(sf:aR F F')(sh:∀ b o,P b->H b=some o->H' b=some o)(ht:∀ b ys,H b=some (.tup ys)->H' b=some (.tup ys)):Dp K F' H' P v p:=by
 induction h with
 |fr h st=>exact .fr (h.up sf) st
 |lst h hp hs dj hl _ ih=>exact .lst (sh _ _ hp h) hp hs dj hl λj x p e1 e2=>ih j x p e1 e2 λb o q=>sh b o (hs j b q).1
 |tup h hs dj hl _ ih=>exact .tup (ht _ _ h) hs dj hl λj x p e1 e2=>ih j x p e1 e2 λb o q=>sh b o (hs j b q)
 |dk h hp hs dj hl _ ih=>exact .dk (sh _ _ hp h) hp hs dj hl λj x p e1 e2=>ih j x p e1 e2 λb o q=>sh b o (hs j b q).1
 |dt h hp hs dj hl _ ih=>exact .dt (sh _ _ hp h) hp hs dj hl λj x p e1 e2=>ih j x p e1 e2 λb o q=>sh b o (hs j b q).1
theorem Dp.seen(h:Dp K F H P v p)(sf:aR F F')(sh:∀ b o,P b->H b=some o->F' b=some o)(ht:∀ b ys,H b=some (.tup ys)->F' b=some (.tup ys)):Rep K F' v p:=by
 induction h with
 |fr h st=>exact h.up sf
 |lst h hp hs dj hl _ ih=>exact .lst (SqL.of (sh _ _ hp h)) hl λj x p e1 e2=>ih j x p e1 e2 λb o q=>sh b o (hs j b q).1
 |tup h hs dj hl _ ih=>exact .tup (ht _ _ h) hl λj x p e1 e2=>ih j x p e1 e2 λb o q=>sh b o (hs j b q)
 |dk h hp hs dj hl _ ih=>exact .dk (.inl (sh _ _ hp h)) hl λj x p e1 e2=>ih j x p e1 e2 λb o q=>sh b o (hs j b q).1
 |dt h hp hs dj hl _ ih=>exact .dt (.inl (sh _ _ hp h)) hl λj x p e1 e2=>ih j x p e1 e2 λb o q=>sh b o (hs j b q).1
end
structure RD(K:Frag)(C:Cf)(F H:Hp)(σ:St)(ρ:Rho)(P:Nat->Addr->Prop):Prop where
 own:∀ i b,P i b->F b=none/\(∃ o,H b=some o/\∀ ys,o≠.tup ys)/\C.nw/\C.H0 b=none
 dis:∀ i j b,P i b->P j b->i=j
 ow:∀ (i j:Nat) q b,P i b->ρ[j]?=some (some (.ow q))->σ[j]?≠some (some (.ref b))
 dp:∀ (i:Nat) p,ρ[i]?=some (some (.dp p))->∃ v,σ[i]?=some (some v)/\Dp K F H (P i) v p
theorem RD.no{K:Frag}{C:Cf}{F H:Hp}{σ:St}{ρ:Rho}(h:∀ (i:Nat) p,ρ[i]?≠some (some (.dp p))):RD K C F H σ ρ (λ_ _=>False):=
 ⟨λ_ _ q=>q.elim,λ_ _ _ q=>q.elim,λ_ _ _ _ q=>q.elim,λi p e=>absurd e (h i p)⟩
def Frz(H:Hp)(b:Addr)(o:HO):Prop:=H b=none\/∃ ys,o=.tup ys
structure RB(C:Cf)(F H:Hp):Prop where
 sub:aR F H
 keep:∀ b o,C.H0 b=some o->¬C.io b->H b=some o
 new:∀ b o,F b=some o->C.F0 b=some o\/Frz C.H0 b o
 ios:∀ b,C.io b->H b≠none/\C.H0 b≠none
structure RE(K:Frag)(C:Cf)(F H:Hp)(σ:St)(ρ:Rho):Prop where
 rb:RB C F H
 len:σ.length=ρ.length
 sh:∀ (i:Nat) p,ρ[i]?=some (some (.sh p))->∃ v,σ[i]?=some (some v)/\Rep K F v p
 ow:∀ (i:Nat) p,ρ[i]?=some (some (.ow p))->∃ a,σ[i]?=some (some (.ref a))/\Own K F H a p/\F a=none/\(C.io a\/(C.nw/\C.H0 a=none))
 dis:∀ (i j:Nat) p q a,ρ[i]?=some (some (.ow p))->ρ[j]?=some (some (.ow q))->σ[i]?=some (some (.ref a))->σ[j]?=some (some (.ref a))->i=j
 dd:∃ P,RD K C F H σ ρ P
structure Up(F H F' H':Hp):Prop where
 ff:aR F F'
 hh:aR H H'
 fr:∀ b o,F' b=some o->F b=some o\/Frz H b o
 fh:aR F' H'
section
variable{K:Frag}{C:Cf}{F F1 F2 F' H H1 H2 H':Hp}{σ:St}{ρ:Rho}{a:Addr}{p:PV}{v:V}
theorem Up.refl(s:aR F H):Up F H F H:=⟨aR.refl _,aR.refl _,λ_ _ h=>.inl h,s⟩
theorem Up.trans(a:Up F H F1 H1)(b:Up F1 H1 F2 H2):Up F H F2 H2:=
 ⟨a.ff.trans b.ff,a.hh.trans b.hh,λc o h=>(b.fr c o h).elim (a.fr c o) λn=>.inr (n.imp (λn=>a.hh.free n) id),b.fh⟩
theorem Own.ne(h:Own K F H a p):∃ o,H a=some o:=by
 cases p with
 |lst l=>obtain⟨xs,e,_⟩:=h;exact⟨_,e⟩
 |dk l=>obtain⟨xs,e,_⟩:=h;exact⟨_,e⟩
 |dt l=>obtain⟨xs,e,_⟩:=h;exact⟨_,e⟩
 |_=>exact h.elim
theorem Own.En{ys:List V}(h:Own K F H a p)(e:H a=some (.tup ys)):False:=by
 cases p with
 |lst l=>obtain⟨xs,e',_⟩:=h;rw[e] at e';cases e'
 |dk l=>obtain⟨xs,e',_⟩:=h;rw[e] at e';cases e'
 |dt l=>obtain⟨xs,e',_⟩:=h;rw[e] at e';cases e'
 |_=>exact h.elim
theorem RD.up{P:Nat->Addr->Prop}(d:RD K C F H σ ρ P)(u:Up F H F' H'):RD K C F' H' σ ρ P where
 own:=λi b q=>by
  obtain⟨a1,⟨o',a2,a3⟩,a4⟩:=d.own i b q;refine⟨?_,⟨o',u.hh _ _ a2,a3⟩,a4⟩;cases e:F' b with
  |none=>rfl
  |some o=>
   rcases u.fr b o e with z|z|⟨ys,z⟩
   ·rw[a1] at z;cases z
   ·rw[a2] at z;cases z
   ·subst z;have w:=u.fh _ _ e;rw[u.hh _ _ a2] at w;cases w;exact absurd rfl (a3 ys)
 dis:=d.dis
 ow:=d.ow
 dp:=λi p e=>let⟨v,e1,e2⟩:=d.dp i p e;⟨v,e1,e2.up u.ff (λb o _ q=>u.hh b o q) λb ys q=>u.hh b _ q⟩
theorem Own.up(h:Own K F H a p)(sf:aR F F')(sh:∀ o,H a=some o->H' a=some o):Own K F' H' a p:=by
 cases p with
 |lst l=>obtain⟨xs,e,r⟩:=h;exact⟨xs,sh _ e,r.up sf⟩
 |dk l=>obtain⟨xs,e,r,q⟩:=h;exact⟨xs,sh _ e,r,λj x p a b=>(q j x p a b).up sf⟩
 |dt l=>obtain⟨xs,e,r,q⟩:=h;exact⟨xs,sh _ e,r,λj x p a b=>(q j x p a b).up sf⟩
 |_=>exact h.elim
theorem Own.frozen(h:Own K F H a p)(hn:F a=none):∃ o,H a=some o/\Rep K (upd F a o) (.ref a) p:=by
 have s:∀ o,aR F (upd F a o):=λo=>d7 hn;cases p with
 |lst l=>obtain⟨xs,e,r⟩:=h;exact⟨_,e,.lst (SqL.of aA) r.1 (r.up (s _)).2⟩
 |dk l=>obtain⟨xs,e,r,q⟩:=h;exact⟨_,e,.dk (.inl aA) r λj x p a b=>(q j x p a b).up (s _)⟩
 |dt l=>obtain⟨xs,e,r,q⟩:=h;exact⟨_,e,.dt (.inl aA) r λj x p a b=>(q j x p a b).up (s _)⟩
 |_=>exact h.elim
theorem Own.lent(h:Own K F H a p)(s:aR F H):Rep K H (.ref a) p:=by
 cases p with
 |lst l=>obtain⟨xs,e,r⟩:=h;exact .lst (SqL.of e) r.1 (r.up s).2
 |dk l=>obtain⟨xs,e,r,q⟩:=h;exact .dk (.inl e) r λj x p a b=>(q j x p a b).up s
 |dt l=>obtain⟨xs,e,r,q⟩:=h;exact .dt (.inl e) r λj x p a b=>(q j x p a b).up s
 |_=>exact h.elim
theorem RB.up(h:RB C F H)(u:Up F H F' H'):RB C F' H' where
 sub:=u.fh
 keep:=λb o e n=>u.hh _ _ (h.keep b o e n)
 new:=λb o e=>(u.fr b o e).elim (h.new b o) λn=>.inr (n.imp (λn=>by
  cases q:C.H0 b with
  |none=>rfl
  |some o'=>
   by_cases hi:C.io b
   ·exact absurd n (h.ios b hi).1
   ·rw[h.keep b o' q hi] at n;cases n) id)
 ios:=λb hb=>⟨λn=>(h.ios b hb).1 (u.hh.free n),(h.ios b hb).2⟩
theorem RB.zc(h:RB C F H){b:Addr}(n:H b=none):C.H0 b=none:=by
 cases q:C.H0 b with
 |none=>rfl
 |some o'=>
  by_cases hi:C.io b
  ·exact absurd n (h.ios b hi).1
  ·rw[h.keep b o' q hi] at n;cases n
theorem RE.up(h:RE K C F H σ ρ)(u:Up F H F' H'):RE K C F' H' σ ρ where
 rb:=h.rb.up u
 len:=h.len
 sh:=λi p e=>let⟨v,e1,e2⟩:=h.sh i p e;⟨v,e1,e2.up u.ff⟩
 ow:=λi p e=>by
  obtain⟨a,e1,e2,e3,e4⟩:=h.ow i p e;refine⟨a,e1,e2.up u.ff λo q=>u.hh _ _ q,?_,e4⟩;cases q:F' a with
  |none=>rfl
  |some o=>
   obtain⟨o',eo⟩:=e2.ne;rcases u.fr a o q with z|z|⟨ys,z⟩
   ·rw[e3] at z;cases z
   ·rw[eo] at z;cases z
   ·subst z;exact absurd (u.fh _ _ q) (λw=>by rw[u.hh _ _ eo] at w;cases w;exact e2.En eo)
 dis:=h.dis
 dd:=let⟨P,d⟩:=h.dd;⟨P,d.up u⟩
theorem get_set{α:Type}{l:List α}{i j:Nat}{x y:α}(h:(l.set i x)[j]?=some y):(i=j/\x=y)\/(i≠j/\l[j]?=some y):=by
 rw[List.getElem?_set] at h;by_cases e:i=j
 ·subst e;rw[Zal rfl] at h;split at h
  ·exact .inl ⟨rfl,Zah h⟩
  ·cases h
 ·rw[Zak e] at h;exact .inr ⟨e,h⟩
theorem cD{α:Type}{l:List α}{j:Nat}{y:α}(h:l[j]?=some y):j<l.length:=(ZaB.mp h).1
theorem RE.set(h:RE K C F H σ ρ)(i:Nat)(r:Rep K F v p):RE K C F H (σ.set i (some v)) (ρ.set i (some (.sh p))) where
 rb:=h.rb
 len:=by simp[h.len]
 sh:=λj q e=>by
  rcases get_set e with⟨e1,e2⟩|⟨e1,e2⟩
  ·subst e1;cases e2;have:=cD e;exact⟨v,by rw[Za8 (by rw[h.len];simpa using this)],r⟩
  ·obtain⟨w,e3,e4⟩:=h.sh j q e2;exact⟨w,by rw[Zav e1];exact e3,e4⟩
 ow:=λj q e=>by
  rcases get_set e with⟨e1,e2⟩|⟨e1,e2⟩
  ·cases e2
  ·obtain⟨w,e3,e4⟩:=h.ow j q e2;exact⟨w,by rw[Zav e1];exact e3,e4⟩
 dis:=λj k q q' a e e' f f'=>by
  rcases get_set e with⟨e1,e2⟩|⟨e1,e2⟩
  ·cases e2
  ·rcases get_set e' with⟨e1',e2'⟩|⟨e1',e2'⟩
   ·cases e2'
   ·rw[Zav e1] at f;rw[Zav e1'] at f';exact h.dis j k q q' a e2 e2' f f'
 dd:=let⟨P,d⟩:=h.dd;⟨P,d.own,d.dis,λj k q b z e f=>by
   rcases get_set e with⟨e1,e2⟩|⟨e1,e2⟩
   ·cases e2
   ·rw[Zav e1] at f;exact d.ow j k q b z e2 f,λj q e=>by
   rcases get_set e with⟨e1,e2⟩|⟨e1,e2⟩
   ·cases e2
   ·obtain⟨w,e3,e4⟩:=d.dp j q e2;exact⟨w,by rw[Zav e1];exact e3,e4⟩⟩
theorem RE.Ut(h:RE K C F H σ ρ)(i:Nat)(r:Own K F H a p)(hn:F a=none)(nw:C.nw)(h0:C.H0 a=none)(ha:∀ (j:Nat) q,ρ[j]?=some (some (.ow q))->j≠i->σ[j]?≠some (some (.ref a)))(hd:∃ P,RD K C F H σ ρ P/\∀ j,¬P j a) :
  RE K C F H (σ.set i (some (.ref a))) (ρ.set i (some (.ow p))) where
 rb:=h.rb
 len:=by simp[h.len]
 sh:=λj q e=>by
  rcases get_set e with⟨e1,e2⟩|⟨e1,e2⟩
  ·cases e2
  ·obtain⟨w,e3,e4⟩:=h.sh j q e2;exact⟨w,by rw[Zav e1];exact e3,e4⟩
 ow:=λj q e=>by
  rcases get_set e with⟨e1,e2⟩|⟨e1,e2⟩
  ·subst e1;cases e2;have:=cD e;exact⟨a,by rw[Za8 (by rw[h.len];simpa using this)],r,hn,.inr ⟨nw,h0⟩⟩
  ·obtain⟨w,e3,e4⟩:=h.ow j q e2;exact⟨w,by rw[Zav e1];exact e3,e4⟩
 dis:=λj k q q' b e e' f f'=>by
  rcases get_set e with⟨e1,e2⟩|⟨e1,e2⟩
  ·rcases get_set e' with⟨e1',e2'⟩|⟨e1',e2'⟩
   ·exact e1.symm.trans e1'
   ·subst e1;have:=cD e;rw[Za8 (by rw[h.len];simpa using this)] at f
    cases f;rw[Zav e1'] at f';exact absurd f' (ha k q' e2' (Zbs e1'))
  ·rcases get_set e' with⟨e1',e2'⟩|⟨e1',e2'⟩
   ·subst e1';have:=cD e';rw[Za8 (by rw[h.len];simpa using this)] at f'
    cases f';rw[Zav e1] at f;exact absurd f (ha j q e2 (Zbs e1))
   ·rw[Zav e1] at f;rw[Zav e1'] at f';exact h.dis j k q q' b e2 e2' f f'
 dd:=let⟨P,d,na⟩:=hd;⟨P,d.own,d.dis,λj k q b z e f=>by
   rcases get_set e with⟨e1,e2⟩|⟨e1,e2⟩
   ·subst e1;have:=cD e;rw[Za8 (by rw[h.len];simpa using this)] at f
    cases f;exact na j z
   ·rw[Zav e1] at f;exact d.ow j k q b z e2 f,λj q e=>by
   rcases get_set e with⟨e1,e2⟩|⟨e1,e2⟩
   ·cases e2
   ·obtain⟨w,e3,e4⟩:=d.dp j q e2;exact⟨w,by rw[Zav e1];exact e3,e4⟩⟩
theorem RE.QX(h:RE K C F H σ ρ)(n:H a=none)(u:Up F H F' H'):∃ P,RD K C F' H' σ ρ P/\∀ j,¬P j a:=by
 obtain⟨P,d⟩:=h.dd;exact⟨P,d.up u,λj z=>by obtain⟨_,⟨o,e,_⟩,_⟩:=d.own j a z;rw[n] at e;cases e⟩
theorem RE.apart(h:RE K C F H σ ρ)(n:H a=none)(j:Nat)(q:PV)(e:ρ[j]?=some (some (.ow q))):σ[j]?≠some (some (.ref a)):=λf=>by
 obtain⟨b,e1,e2,_⟩:=h.ow j q e;rw[e1] at f;cases f;obtain⟨o,eo⟩:=e2.ne;rw[eo] at n;cases n
theorem RE.write(h:RE K C F H σ ρ){i:Nat}{o:HO}{p':PV}(e:ρ[i]?=some (some (.ow p)))(ea:σ[i]?=some (some (.ref a)))(r:Own K F (upd H a o) a p') :
  RE K C F (upd H a o) σ (ρ.set i (some (.ow p'))):=by
 obtain⟨a',e1,e2,e3,e4⟩:=h.ow i p e;rw[ea] at e1;cases e1;have ne:∀ b u,F b=some u->b≠a:=λb u q z=>by rw[z,e3] at q;cases q
 refine⟨⟨λb u q=>by rw[aq (ne b u q)];exact h.rb.sub b u q,λb u q n=>?_,h.rb.new,λb hb=>⟨?_,(h.rb.ios b hb).2⟩⟩,by simp[h.len],λj q f=>?_,λj q f=>?_,λj k q q' b f f' g g'=>?_,?_⟩
 ·have:b≠a:=λz=>by
   subst z;rcases e4 with z|z
   ·exact n z
   ·rw[z.2] at q;cases q
  rw[aq this];exact h.rb.keep b u q n
 ·by_cases hba:b=a
  ·subst hba;rw[aA];simp
  ·rw[aq hba];exact(h.rb.ios b hb).1
 ·rcases get_set f with⟨e1,f2⟩|⟨e1,f2⟩
  ·cases f2
  ·exact h.sh j q f2
 ·rcases get_set f with⟨e1,f2⟩|⟨e1,f2⟩
  ·subst e1;cases f2;exact⟨a,ea,r,e3,e4⟩
  ·obtain⟨b,g1,g2,g3,g4⟩:=h.ow j q f2;refine⟨b,g1,g2.up (aR.refl _) λu qq=>?_,g3,g4⟩;have:b≠a:=λz=>by subst z;exact e1 (h.dis i j p q b e f2 ea g1)
   rw[aq this];exact qq
 ·have key:∀ (j:Nat) q,(ρ.set i (some (Sl.ow p')))[j]?=some (some (.ow q))->∃ q0,ρ[j]?=some (some (.ow q0)):=λj q f=>by
   rcases get_set f with⟨e1,f2⟩|⟨e1,f2⟩
   ·subst e1;exact⟨p,e⟩
   ·exact⟨q,f2⟩
  obtain⟨q0,k0⟩:=key j q f;obtain⟨q1,k1⟩:=key k q' f';exact h.dis j k q0 q1 b k0 k1 g g'
 ·obtain⟨P,d⟩:=h.dd;have na:∀ j b,P j b->b≠a:=λj b z e'=>by subst e';exact d.ow j i p b z e ea
  refine⟨P,λj b z=>?_,d.dis,λj k q b z f g=>?_,λj q f=>?_⟩
  ·rw[aq (na j b z)];exact d.own j b z
  ·rcases get_set f with⟨f1,f2⟩|⟨f1,f2⟩
   ·subst f1;exact d.ow j i p b z e g
   ·exact d.ow j k q b z f2 g
  ·rcases get_set f with⟨f1,f2⟩|⟨f1,f2⟩
   ·cases f2
   ·obtain⟨w,e3,e5⟩:=d.dp j q f2;exact⟨w,e3,e5.up (aR.refl _) (λb o z q=>by rw[aq (na j b z)];exact q) λb ys q=>by rw[aq λz=>by subst z;exact e2.En q];exact q⟩
theorem RE.frz(h:RE K C F H σ ρ){i:Nat}(e:ρ[i]?=some (some (.ow p)))(hio:∀ a,σ[i]?=some (some (.ref a))->¬C.io a):∃ F',aR F F'/\RE K C F' H σ (ρ.set i (some (.sh p))):=by
 obtain⟨a,e1,e2,e3,e4⟩:=h.ow i p e;obtain⟨o,eo,r⟩:=e2.frozen e3;have h0:C.H0 a=none:=(e4.resolve_left (hio a e1)).2;have sf:aR F (upd F a o):=d7 e3;have li:=cD e;refine⟨upd F a o,sf,⟨⟨λb u q=>?_,h.rb.keep,λb u q=>?_,h.rb.ios⟩,by simp[h.len],λj q f=>?_,λj q f=>?_,λj k q q' b f f' g g'=>?_,?_⟩⟩
 ·by_cases hb:b=a
  ·subst hb;rw[aA] at q;cases q;exact eo
  ·rw[aq hb] at q;exact h.rb.sub b u q
 ·by_cases hb:b=a
  ·subst hb;exact .inr (.inl h0)
  ·rw[aq hb] at q;exact h.rb.new b u q
 ·rcases get_set f with⟨f1,f2⟩|⟨f1,f2⟩
  ·subst f1;cases f2;exact⟨_,e1,r⟩
  ·obtain⟨v,g1,g2⟩:=h.sh j q f2;exact⟨v,g1,g2.up sf⟩
 ·rcases get_set f with⟨f1,f2⟩|⟨f1,f2⟩
  ·cases f2
  ·obtain⟨b,g1,g2,g3,g4⟩:=h.ow j q f2;refine⟨b,g1,g2.up sf λ_ z=>z,?_,g4⟩;have:b≠a:=λz=>by subst z;exact f1 (h.dis i j p q b e f2 e1 g1)
   rw[aq this];exact g3
 ·rcases get_set f with⟨f1,f2⟩|⟨f1,f2⟩
  ·cases f2
  ·rcases get_set f' with⟨f1',f2'⟩|⟨f1',f2'⟩
   ·cases f2'
   ·exact h.dis j k q q' b f2 f2' g g'
 ·obtain⟨P,d⟩:=h.dd;have na:∀ j b,P j b->b≠a:=λj b z e'=>by subst e';exact d.ow j i p b z e e1
  refine⟨P,λj b z=>?_,d.dis,λj k q b z f g=>?_,λj q f=>?_⟩
  ·rw[aq (na j b z)];exact d.own j b z
  ·rcases get_set f with⟨f1,f2⟩|⟨f1,f2⟩
   ·cases f2
   ·exact d.ow j k q b z f2 g
  ·rcases get_set f with⟨f1,f2⟩|⟨f1,f2⟩
   ·cases f2
   ·obtain⟨w,e3,e5⟩:=d.dp j q f2;exact⟨w,e3,e5.up sf (λ_ _ _ q=>q) λ_ _ q=>q⟩
end
structure Cg extends Cf where
 XR:Hp->Value->Option Addr->PV->Prop
def PX(C:Cg)(F:Hp)(z:PV):Prop:=∀ e d F' H',aR F F'->RB C.toCf F' H'->C.XR F' e d z->C.E e d H'
def Pr{α:Type}(C:Cg)(F:Hp)(ok:α->Prop):Res α->Prop
 |.ok a=>ok a
 |.ex z=>PX C F z
noncomputable abbrev Rel(α:Type):=Hp->Hp->V->α->Prop
def aF(K:Frag):Rel PV:=λF _ v p=>Rep K F v p
def aH(K:Frag):Rel PV:=λ_ H v p=>Rep K H v p
def aV(K:Frag):Rel (List PV):=λF H v l=>∃ a xs,v=.ref a/\SqL K H a xs/\bG K F xs l
def UpM{α:Type}(A:Rel α):Prop:=∀ F H F' H' v a,Up F H F' H'->A F H v a->A F' H' v a
theorem aF.up{K:Frag}:UpM (aF K):=λ_ _ _ _ _ _ u h=>Rep.up h u.ff
theorem aH.up{K:Frag}:UpM (aH K):=λ_ _ _ _ _ _ u h=>Rep.up h u.hh
theorem aV.up{K:Frag}:UpM (aV K):=λ_ _ _ _ _ _ u h=>let⟨a,xs,e,s,r⟩:=h;⟨a,xs,e,u.hh.seq s,r.up u.ff⟩
noncomputable abbrev Fn(α:Type):=Rho->Option (Res α)
def MJ{α:Type}(K:Frag)(C:Cg)(A:Rel α)(te:TE)(f:Fn α):Prop:=
 ∀ F H σ ρ Q r,RE K C.toCf F H σ ρ->f ρ=some r->Pr C F (λa=>∀ v F' H',Up F H F' H'->A F' H' v a->Q v H') r->te σ H Q
def MT(K:Frag)(C:Cg)(tt:TT)(f:Fn Bool):Prop:=
 ∀ F H σ ρ Q r,RE K C.toCf F H σ ρ->f ρ=some r->Pr C F (λb=>∀ F' H',Up F H F' H'->Q b H') r->tt σ H Q
def MA(K:Frag)(C:Cg)(ta:TA)(f:Fn (List PV)):Prop:=
 ∀ F H σ ρ Q r,RE K C.toCf F H σ ρ->f ρ=some r->Pr C F (λl=>∀ xs F' H',Up F H F' H'->bG K F' xs l->Q xs H') r->ta σ H Q
def MAL(K:Frag)(C:Cg)(ta:TA)(f:Fn (List PV)):Prop:=
 ∀ F H σ ρ Q r,RE K C.toCf F H σ ρ->f ρ=some r->Pr C F (λl=>∀ xs F' H',Up F H F' H'->bG K H' xs l->Q xs H') r->ta σ H Q
def MO(K:Frag)(C:Cg)(te:TE)(f:Fn PV):Prop:=
 ∀ F H σ ρ Q r,RE K C.toCf F H σ ρ->f ρ=some r->Pr C F (λp=>∀ a F' H',Up F H F' H'->H a=none->F' a=none->Own K F' H' a p->Q (.ref a) H') r->te σ H Q
theorem dU{α β:Type}{x:Option (Res α)}{k:α->Option (Res β)}{r:Res β}(h:bnd x k=some r):(∃ z,x=some (.ex z)/\r=.ex z)\/∃ a,x=some (.ok a)/\k a=some r:=by
 match x,h with
 |some (.ok a),h=>exact .inr ⟨a,rfl,h⟩
 |some (.ex z),h=>exact .inl ⟨z,rfl,(Zah h).symm⟩
theorem PX.up{C:Cg}{F F1:Hp}{z:PV}(h:PX C F z)(s:aR F F1):PX C F1 z:=λe d F' H' a b c=>h e d F' H' (s.trans a) b c
theorem Pr.mono{α:Type}{C:Cg}{F F1:Hp}{ok ok':α->Prop}{r:Res α}(h:Pr C F ok r)(s:aR F F1)(k:∀ a,ok a->ok' a):Pr C F1 ok' r:=by
 cases r with
 |ok a=>exact k a h
 |ex z=>exact PX.up h s
section
variable{K:Frag}{C:Cg}{α β γ:Type}{A:Rel α}{B:Rel β}{D:Rel γ}{ta tb:TE}{f:Fn α}{g:Fn β}{F H:Hp}{σ:St}{ρ:Rho}{Q:VK}
theorem MJ.run{ok:β->Prop}{k:α->Option (Res β)}{r:Res β}(h:MJ K C A ta f)(R:RE K C.toCf F H σ ρ)(hb:bnd (f ρ) k=some r)(P:Pr C F ok r)
  (go:∀ p v F1 H1,k p=some r->Up F H F1 H1->A F1 H1 v p->Q v H1):ta σ H Q:=by
 rcases dU hb with⟨z,e,rfl⟩|⟨p,e,hk⟩
 ·exact h F H σ ρ Q _ R e P
 ·exact h F H σ ρ Q _ R e λv F1 H1 u a=>go p v F1 H1 hk u a
theorem MT.run{tt:TT}{f:Fn Bool}{Q:Bool->Hp->Prop}{ok:β->Prop}{k:Bool->Option (Res β)}{r:Res β}(h:MT K C tt f)(R:RE K C.toCf F H σ ρ)(hb:bnd (f ρ) k=some r)(P:Pr C F ok r)
  (go:∀ b F1 H1,k b=some r->Up F H F1 H1->Q b H1):tt σ H Q:=by
 rcases dU hb with⟨z,e,rfl⟩|⟨p,e,hk⟩
 ·exact h F H σ ρ Q _ R e P
 ·exact h F H σ ρ Q _ R e λF1 H1 u=>go p F1 H1 hk u
theorem MA.run{t:TA}{f:Fn (List PV)}{Q:List V->Hp->Prop}{ok:β->Prop}{k:List PV->Option (Res β)}{r:Res β}(h:MA K C t f)(R:RE K C.toCf F H σ ρ)(hb:bnd (f ρ) k=some r)(P:Pr C F ok r)
  (go:∀ l xs F1 H1,k l=some r->Up F H F1 H1->bG K F1 xs l->Q xs H1):t σ H Q:=by
 rcases dU hb with⟨z,e,rfl⟩|⟨p,e,hk⟩
 ·exact h F H σ ρ Q _ R e P
 ·exact h F H σ ρ Q _ R e λxs F1 H1 u a=>go p xs F1 H1 hk u a
theorem MAL.run{t:TA}{f:Fn (List PV)}{Q:List V->Hp->Prop}{ok:β->Prop}{k:List PV->Option (Res β)}{r:Res β}(h:MAL K C t f)(R:RE K C.toCf F H σ ρ)(hb:bnd (f ρ) k=some r)(P:Pr C F ok r)
  (go:∀ l xs F1 H1,k l=some r->Up F H F1 H1->bG K H1 xs l->Q xs H1):t σ H Q:=by
 rcases dU hb with⟨z,e,rfl⟩|⟨p,e,hk⟩
 ·exact h F H σ ρ Q _ R e P
 ·exact h F H σ ρ Q _ R e λxs F1 H1 u a=>go p xs F1 H1 hk u a
theorem Pr.later{D:Rel γ}{r:Res γ}{F1 H1:Hp}(P:Pr C F (λa=>∀ v F' H',Up F H F' H'->D F' H' v a->Q v H') r)(u:Up F H F1 H1):Pr C F1 (λa=>∀ v F' H',Up F1 H1 F' H'->D F' H' v a->Q v H') r:=
 P.mono u.ff λ_ h v F' H' u' d=>h v F' H' (u.trans u') d
theorem Pr.Js{Q:Bool->Hp->Prop}{r:Res Bool}{F1 H1:Hp}(P:Pr C F (λb=>∀ F' H',Up F H F' H'->Q b H') r)(u:Up F H F1 H1):Pr C F1 (λb=>∀ F' H',Up F1 H1 F' H'->Q b H') r:=
 P.mono u.ff λ_ h F' H' u'=>h F' H' (u.trans u')
theorem Pr.BW{r:Res PV}{F1 H1:Hp}(P:Pr C F (λp=>∀ a F' H',Up F H F' H'->H a=none->F' a=none->Own K F' H' a p->Q (.ref a) H') r)(u:Up F H F1 H1) :
  Pr C F1 (λp=>∀ a F' H',Up F1 H1 F' H'->H1 a=none->F' a=none->Own K F' H' a p->Q (.ref a) H') r:=
 P.mono u.ff λ_ h a F' H' u' n1 n2 d=>h a F' H' (u.trans u') (u.hh.free n1) n2 d
theorem Pr.QZ{Q:List V->Hp->Prop}{r:Res (List PV)}{F1 H1:Hp}(P:Pr C F (λl=>∀ xs F' H',Up F H F' H'->bG K F' xs l->Q xs H') r)(u:Up F H F1 H1):Pr C F1 (λl=>∀ xs F' H',Up F1 H1 F' H'->bG K F' xs l->Q xs H') r:=
 P.mono u.ff λ_ h xs F' H' u' d=>h xs F' H' (u.trans u') d
theorem Pr.Q0{Q:List V->Hp->Prop}{r:Res (List PV)}{F1 H1:Hp}(P:Pr C F (λl=>∀ xs F' H',Up F H F' H'->bG K H' xs l->Q xs H') r)(u:Up F H F1 H1):Pr C F1 (λl=>∀ xs F' H',Up F1 H1 F' H'->bG K H' xs l->Q xs H') r:=
 P.mono u.ff λ_ h xs F' H' u' d=>h xs F' H' (u.trans u') d
def mV(i:Nat):Fn PV:=λρ=>match ρ[i]? with
 |some (some (.sh p))=>some (.ok p)
 |_=>none
theorem ak(i:Nat):MJ K C (aF K) (pJ i) (mV i):=by
 intro F H σ ρ Q r R e P;unfold mV at e;split at e
 ·rename_i p hp;cases e;obtain⟨v,e1,e2⟩:=R.sh i p hp;exact⟨v,e1,P v F H (Up.refl R.rb.sub) e2⟩
 ·cases e
def mVL(i:Nat):Fn PV:=λρ=>match ρ[i]? with
 |some (some (.sh p))=>some (.ok p)
 |some (some (.ow p))=>some (.ok p)
 |_=>none
theorem bw(i:Nat):MJ K C (aH K) (pJ i) (mVL i):=by
 intro F H σ ρ Q r R e P;unfold mVL at e;split at e
 ·rename_i p hp;cases e;obtain⟨v,e1,e2⟩:=R.sh i p hp;exact⟨v,e1,P v F H (Up.refl R.rb.sub) (e2.up R.rb.sub)⟩
 ·rename_i p hp;cases e;obtain⟨a,e1,e2,e3,_⟩:=R.ow i p hp;exact⟨_,e1,P _ F H (Up.refl R.rb.sub) (e2.lent R.rb.sub)⟩
 ·cases e
def rO:PV->Option (Res (List PV))
 |.lst l=>some (.ok l)
 |_=>none
theorem M3{f:Fn PV}(h:MJ K C (aF K) ta f):MJ K C (aV K) ta (λρ=>bnd (f ρ) rO):=by
 intro F H σ ρ Q r R e P;refine h.run R e P λp v F1 H1 hk u a=>?_
 match p,hk with
 |.lst l,hk=>
  cases hk;obtain⟨b,xs,rfl,s,rr⟩:=Rep.cj a;exact P _ F1 H1 u ⟨b,xs,rfl,u.fh.seq s,rr⟩
theorem lQ(i:Nat):MJ K C (aV K) (pJ i) (λρ=>bnd (mVL i ρ) rO):=by
 intro F H σ ρ Q r R e P;rcases dU e with⟨z,e1,rfl⟩|⟨p,e1,hk⟩
 ·unfold mVL at e1;split at e1<;>cases e1
 ·unfold mVL at e1
  match p,hk with
  |.lst l,hk=>
   cases hk;split at e1
   ·rename_i q hq;cases e1;obtain⟨v,e2,e3⟩:=R.sh i _ hq;obtain⟨b,xs,rfl,s,rr⟩:=Rep.cj e3;exact⟨_,e2,P _ F H (Up.refl R.rb.sub) ⟨b,xs,rfl,R.rb.sub.seq s,rr⟩⟩
   ·rename_i q hq;cases e1;obtain⟨a,e2,⟨xs,e3,rr⟩,_⟩:=R.ow i _ hq;exact⟨_,e2,P _ F H (Up.refl R.rb.sub) ⟨a,xs,rfl,SqL.of e3,rr⟩⟩
   ·cases e1
theorem cU{f:Fn PV}(h:MJ K C (aF K) ta f):MJ K C (aH K) ta f:=by
 intro F H σ ρ Q r R e P;refine h F H σ ρ Q r R e ?_;exact P.mono (aR.refl _) λ_ k v F' H' u d=>k v F' H' u (Rep.up d u.fh)
def mC(p:PV):Fn PV:=λ_=>some (.ok p)
theorem M4{v:V}{p:PV}(h:∀ F,Rep K F v p):MJ K C (aF K) (tC v) (mC p):=by
 intro F H σ ρ Q r R e P;cases e;exact P v F H (Up.refl R.rb.sub) (h F)
theorem aJ{i:Int}:MJ K C (aF K) (tC (.int i)) (mC (.int i)):=M4 λ_=>.int
theorem Eo{i:Bool}:MJ K C (aF K) (tC (.bl i)) (mC (.bl i)):=M4 λ_=>.bl
theorem rm{i:Str}:MJ K C (aF K) (tC (.str i)) (mC (.str i)):=M4 λ_=>.str
theorem Jt{n:String}:MJ K C (aF K) (tC (.ty n)) (mC (.ty n)):=M4 λ_=>.ty
theorem cV{f:Fn PV}(h:MO K C ta f):MJ K C (aF K) ta f:=by
 intro F H σ ρ Q r R e P;refine h F H σ ρ Q r R e (P.mono (aR.refl _) λp k a F' H' u n1 n2 o=>?_);obtain⟨ob,eo,rr⟩:=o.frozen n2;refine k _ (upd F' a ob) H' ⟨u.ff.trans (d7 n2),u.hh,λb x q=>?_,λb x q=>?_⟩ rr
 ·by_cases hb:b=a
  ·subst hb;exact .inr (.inl n1)
  ·rw[aq hb] at q;exact u.fr b x q
 ·by_cases hb:b=a
  ·subst hb;rw[aA] at q;cases q;exact eo
  ·rw[aq hb] at q;exact u.fh b x q
theorem xr{f:Fn PV}(h:MO K C ta f):MJ K C (aV K) ta (λρ=>bnd (f ρ) rO):=M3 (cV h)
def m2{α β γ:Type}(op:α->β->Option (Res γ))(f:Fn α)(g:Fn β):Fn γ:=λρ=>bnd (f ρ) λa=>bnd (g ρ) λb=>op a b
def R2M(C:Cg)(A:Rel α)(B:Rel β)(D:Rel γ)(r:R2)(op:α->β->Option (Res γ)):Prop:=
 ∀ F H x y a b res Q,aR F H->A F H x a->B F H y b->op a b=some res->Pr C F (λc=>∀ v F' H',Up F H F' H'->D F' H' v c->Q v H') res->r x y H Q
theorem aC{op:α->β->Option (Res γ)}{r2:R2}(up:UpM A)(rule:R2M C A B D r2 op)(ha:MJ K C A ta f)(hb:MJ K C B tb g):MJ K C D (tOp r2 ta tb) (m2 op f g):=by
 intro F H σ ρ Q r R e P;refine ha.run R e P λp v F1 H1 hk u a=>?_;refine hb.run (R.up u) hk (P.later u) λq w F2 H2 hk2 u2 b=>?_;exact rule F2 H2 v w p q r Q u2.fh (up _ _ _ _ _ _ u2 a) b hk2 (P.later (u.trans u2))
def R2O(K:Frag)(C:Cg)(A:Rel α)(B:Rel β)(r:R2)(op:α->β->Option (Res PV)):Prop:=
 ∀ F H x y a b res Q,aR F H->A F H x a->B F H y b->op a b=some res->Pr C F (λp=>∀ a F' H',Up F H F' H'->H a=none->F' a=none->Own K F' H' a p->Q (.ref a) H') res->r x y H Q
theorem Tf{op:α->β->Option (Res PV)}{r2:R2}(up:UpM A)(rule:R2O K C A B r2 op)(ha:MJ K C A ta f)(hb:MJ K C B tb g):MO K C (tOp r2 ta tb) (m2 op f g):=by
 intro F H σ ρ Q r R e P;refine ha.run R e P λp v F1 H1 hk u a=>?_;refine hb.run (R.up u) hk (P.BW u) λq w F2 H2 hk2 u2 b=>?_;exact rule F2 H2 v w p q r Q u2.fh (up _ _ _ _ _ _ u2 a) b hk2 (P.BW (u.trans u2))
def m1{α γ:Type}(op:α->Option (Res γ))(f:Fn α):Fn γ:=λρ=>bnd (f ρ) op
def iD:PV->Option (Res Bool)
 |.bl b=>some (.ok b)
 |_=>none
theorem cM{f:Fn PV}(ha:MJ K C (aF K) ta f):MT K C (Qa ta) (m1 iD f):=by
 intro F H σ ρ Q r R e P;refine ha.run R e P λp v F1 H1 hk u a=>?_
 match p,hk with
 |.bl b,hk=>
  cases Rep.j7 a;cases hk;exact⟨b,rfl,P F1 H1 u⟩
theorem uf{f:Fn PV}(ha:MJ K C (aF K) ta f):MT K C (tB ta) (m1 iD f):=cM ha
def M5(f g:Fn Bool):Fn Bool:=λρ=>bnd (f ρ) λa=>if a=true then g ρ else some (.ok false)
def mOr(f g:Fn Bool):Fn Bool:=λρ=>bnd (f ρ) λa=>if a=true then some (.ok true) else g ρ
def BX(f:Fn Bool):Fn Bool:=λρ=>bnd (f ρ) λa=>some (.ok (!a))
variable{c d:TT}{fc gc:Fn Bool}
theorem Q3(ha:MT K C c fc)(hb:MT K C d gc):MT K C (Sd c d) (M5 fc gc):=by
 intro F H σ ρ Q r R e P;refine ha.run R e P λb F1 H1 hk u=>?_;cases b with
 |true=>rw[Zal rfl] at hk ⊢;exact hb F1 H1 σ ρ Q r (R.up u) hk (P.Js u)
 |false=>rw[Zak (by decide)] at hk ⊢;cases hk;exact P F1 H1 u
theorem Ju(ha:MT K C c fc)(hb:MT K C d gc):MT K C (tOr c d) (mOr fc gc):=by
 intro F H σ ρ Q r R e P;refine ha.run R e P λb F1 H1 hk u=>?_;cases b with
 |true=>rw[Zal rfl] at hk ⊢;cases hk;exact P F1 H1 u
 |false=>rw[Zak (by decide)] at hk ⊢;exact hb F1 H1 σ ρ Q r (R.up u) hk (P.Js u)
theorem xu(ha:MT K C c fc):MT K C (Sg c) (BX fc):=by
 intro F H σ ρ Q r R e P;refine ha.run R e P λb F1 H1 hk u=>?_;cases hk;exact P F1 H1 u
def bH:Fn (List PV):=λ_=>some (.ok [])
def aL(f:Fn PV)(g:Fn (List PV)):Fn (List PV):=λρ=>bnd (f ρ) λa=>bnd (g ρ) λl=>some (.ok (a::l))
theorem aO:MA K C pK bH:=λF H σ ρ Q r R e P=>by
 cases e;exact P [] F H (Up.refl R.rb.sub) .nil
theorem ao{f:Fn PV}{g:Fn (List PV)}{t:TA}(ha:MJ K C (aF K) ta f)(hb:MA K C t g):MA K C (jk ta t) (aL f g):=by
 intro F H σ ρ Q r R e P;refine ha.run R e P λp v F1 H1 hk u a=>?_;refine hb.run (R.up u) hk (P.QZ u) λl xs F2 H2 hk2 u2 b=>?_;cases hk2;exact P _ F2 H2 (u.trans u2) (b.cons (Rep.up a u2.ff))
theorem M6:MAL K C pK bH:=λF H σ ρ Q r R e P=>by
 cases e;exact P [] F H (Up.refl R.rb.sub) .nil
theorem zf{f:Fn PV}{g:Fn (List PV)}{t:TA}(ha:MJ K C (aH K) ta f)(hb:MAL K C t g):MAL K C (jk ta t) (aL f g):=by
 intro F H σ ρ Q r R e P;refine ha.run R e P λp v F1 H1 hk u a=>?_;refine hb.run (R.up u) hk (P.Q0 u) λl xs F2 H2 hk2 u2 b=>?_;cases hk2;exact P _ F2 H2 (u.trans u2) (b.cons (Rep.up a u2.hh))
theorem Up.vq{F H:Hp}{a:Addr}{o:HO}(s:aR F H)(h:H a=none):Up F H F (upd H a o):=⟨aR.refl _,d7 h,λ_ _ q=>.inl q,s.trans (d7 h)⟩
theorem Up.new{F H:Hp}{a:Addr}{o:HO}(s:aR F H)(h:H a=none):Up F H (upd F a o) (upd H a o):=by
 have hf:F a=none:=s.free h;refine⟨d7 hf,d7 h,λb u q=>?_,λb u q=>?_⟩
 ·by_cases hb:b=a
  ·subst hb;exact .inr (.inl h)
  ·rw[aq hb] at q;exact .inl q
 ·by_cases hb:b=a
  ·subst hb;rw[aA] at q ⊢;exact q
  ·rw[aq hb] at q ⊢;exact s b u q
def oE(f:Fn (List PV)):Fn PV:=λρ=>bnd (f ρ) λl=>if l.length<=sizeLine then some (.ok (.tup l)) else none
def vy(f:Fn (List PV)):Fn PV:=λρ=>bnd (f ρ) λl=>if l.length<=sizeLine then some (.ok (.lst l)) else none
theorem gj{t:TA}{f:Fn (List PV)}(h:MA K C t f):MJ K C (aF K) (SM t) (oE f):=by
 intro F H σ ρ Q r R e P;refine h.run R e P λl xs F1 H1 hk u a=>?_;split at hk
 ·rename_i hl;cases hk;refine⟨by rw[a.1];exact hl,λp hp=>?_⟩
  have un:=Up.new (o:=.tup xs) u.fh hp;exact P _ _ _ (u.trans un) (.tup aA a.1 (a.up un.ff).2)
 ·cases hk
theorem oO{t:TA}{f:Fn (List PV)}(h:MA K C t f):MO K C (QK t) (vy f):=by
 intro F H σ ρ Q r R e P;refine h.run R e P λl xs F1 H1 hk u a=>?_;split at hk
 ·rename_i hl;cases hk;refine⟨by rw[a.1];exact hl,λp hp=>?_⟩
  exact P _ _ _ (u.trans (Up.vq u.fh hp)) (u.hh.free hp) (u.fh.free hp) ⟨xs,aA,a⟩
 ·cases hk
def spM(K:Frag)(XR:Hp->Value->Option Addr->PV->Prop)(m:List PV->Option (Res PV)):Sp:=λvs H Q E=>∃ ps F r,aR F H/\bG K F vs ps/\m ps=some r/\match r with
 |.ok p=>∀ v F' H',Up F H F' H'->Rep K F' v p->Q v H'
 |.ex z=>∀ e d F' H',Up F H F' H'->XR F' e d z->E e d H'
def spO(K:Frag)(XR:Hp->Value->Option Addr->PV->Prop)(m:List PV->Option (Res PV)):Sp:=λvs H Q E=>∃ ps F r,aR F H/\bG K F vs ps/\m ps=some r/\match r with
 |.ok p=>∀ a F' H',Up F H F' H'->H a=none->F' a=none->Own K F' H' a p->Q (.ref a) H'
 |.ex z=>∀ e d F' H',Up F H F' H'->XR F' e d z->E e d H'
def bY(m:List PV->Option (Res PV))(f:Fn (List PV)):Fn PV:=λρ=>bnd (f ρ) m
theorem bR{t:TA}{f:Fn (List PV)}{m:List PV->Option (Res PV)}(h:MA K C t f):MJ K C (aF K) (vM (spM K C.XR m) [] C.E t) (bY m f):=by
 intro F H σ ρ Q r R e P;refine h.run R e P λl xs F1 H1 hk u a=>?_;refine⟨l,F1,r,u.fh,by rw[ZaS];exact a,hk,?_⟩
 cases r with
 |ok p=>exact λv F' H' u' rv=>P v F' H' (u.trans u') rv
 |ex z=>exact λe d F' H' u' x=>P e d F' H' (u.trans u').ff (R.rb.up (u.trans u')) x
theorem jl{t:TA}{f:Fn (List PV)}{m:List PV->Option (Res PV)}(h:MA K C t f):MO K C (vM (spO K C.XR m) [] C.E t) (bY m f):=by
 intro F H σ ρ Q r R e P;refine h.run R e P λl xs F1 H1 hk u a=>?_;refine⟨l,F1,r,u.fh,by rw[ZaS];exact a,hk,?_⟩
 cases r with
 |ok p=>exact λv F' H' u' n1 n2 rv=>P v F' H' (u.trans u') (u.hh.free n1) n2 rv
 |ex z=>exact λe d F' H' u' x=>P e d F' H' (u.trans u').ff (R.rb.up (u.trans u')) x
def xx(m:List PV->Option (Res PV))(f:Fn (List PV)):Fn PV:=λρ=>bnd (f ρ) λl=>match m l with
 |some (.ok p)=>if p.flat=true then some (.ok p) else none
 |_=>none
theorem Jv{t:TA}{f:Fn (List PV)}{m:List PV->Option (Res PV)}(h:MAL K C t f):MJ K C (aF K) (vM (spM K C.XR m) [] C.E t) (xx m f):=by
 intro F H σ ρ Q r R e P;refine h.run R e P λl xs F1 H1 hk u a=>?_;split at hk
 ·rename_i p hp;split at hk
  ·rename_i hf;cases hk;refine⟨l,H1,.ok p,aR.refl _,by rw[ZaS];exact a,hp,λv F' H' u' rv=>?_⟩
   exact P v F1 H' (u.trans ⟨aR.refl _,u'.hh,λ_ _ q=>.inl q,u.fh.trans u'.hh⟩) (Rep.free rv hf)
  ·cases hk
 ·cases hk
end
inductive Out where
 |nx (ρ:Rho)|rt (p:PV)|ro (p:PV)|rd (p:PV)|bk (ρ:Rho)|ct (ρ:Rho)|ex (z:PV)
noncomputable abbrev Sn:=Rho->Option Out
def PO'(K:Frag)(C:Cg)(F:Hp)(D:Ends):Out->Prop
 |.nx ρ=>∀ F' H' σ,aR F F'->RE K C.toCf F' H' σ ρ->D.nx σ H'
 |.bk ρ=>∀ F' H' σ,aR F F'->RE K C.toCf F' H' σ ρ->D.bk σ H'
 |.ct ρ=>∀ F' H' σ,aR F F'->RE K C.toCf F' H' σ ρ->D.ct σ H'
 |.rt p=>∀ v F' H',aR F F'->RB C.toCf F' H'->Rep K F' v p->D.rt v H'
 |.ro p=>∀ a F' H',aR F F'->RB C.toCf F' H'->Own K F' H' a p->F' a=none->C.H0 a=none->D.rt (.ref a) H'
 |.rd p=>∀ v F' H' S,aR F F'->RB C.toCf F' H'->Dp K F' H' S v p->(∀ b,S b->F' b=none/\(∃ o,H' b=some o/\∀ ys,o≠.tup ys)/\C.H0 b=none)->D.rt v H'
 |.ex z=>PX C F z
def MS(K:Frag)(C:Cg)(t:TS)(f:Sn):Prop:=∀ F H σ ρ D o,RE K C.toCf F H σ ρ->f ρ=some o->PO' K C F D o->t D σ H
def jE{α:Type}(x:Option (Res α))(k:α->Option Out):Option Out:=match x with
 |some (.ok a)=>k a
 |some (.ex z)=>some (.ex z)
 |none=>none
theorem M7{α:Type}{a:α}{k:α->Option Out}:jE (some (.ok a)) k=k a:=rfl
theorem dC{α:Type}{x:Option (Res α)}{k:α->Option Out}{o:Out}(h:jE x k=some o):(∃ z,x=some (.ex z)/\o=.ex z)\/∃ a,x=some (.ok a)/\k a=some o:=by
 match x,h with
 |some (.ok a),h=>exact .inr ⟨a,rfl,h⟩
 |some (.ex z),h=>exact .inl ⟨z,rfl,(Zah h).symm⟩
section
variable{K:Frag}{C:Cg}{α:Type}{A:Rel α}{ta te:TE}{F H:Hp}{σ:St}{ρ:Rho}{D:Ends}{t u:TS}{f g:Sn}{o:Out}
theorem PO'.up{F1:Hp}(h:PO' K C F D o)(s:aR F F1):PO' K C F1 D o:=by
 cases o with
 |nx ρ=>exact λF' H' σ a=>h F' H' σ (s.trans a)
 |bk ρ=>exact λF' H' σ a=>h F' H' σ (s.trans a)
 |ct ρ=>exact λF' H' σ a=>h F' H' σ (s.trans a)
 |rt p=>exact λv F' H' a=>h v F' H' (s.trans a)
 |ro p=>exact λv F' H' a=>h v F' H' (s.trans a)
 |rd p=>exact λv F' H' S a=>h v F' H' S (s.trans a)
 |ex z=>exact PX.up h s
theorem MJ.vz{fe:Fn α}{Q:VK}{k:α->Option Out}(h:MJ K C A ta fe)(R:RE K C.toCf F H σ ρ)(hb:jE (fe ρ) k=some o)(P:PO' K C F D o)
  (go:∀ p v F1 H1,k p=some o->Up F H F1 H1->A F1 H1 v p->Q v H1):ta σ H Q:=by
 rcases dC hb with⟨z,e,rfl⟩|⟨p,e,hk⟩
 ·exact h F H σ ρ Q _ R e P
 ·exact h F H σ ρ Q _ R e λv F1 H1 u a=>go p v F1 H1 hk u a
theorem MO.vz{fe:Fn PV}{Q:VK}{k:PV->Option Out}(h:MO K C ta fe)(R:RE K C.toCf F H σ ρ)(hb:jE (fe ρ) k=some o)(P:PO' K C F D o)
  (go:∀ p a F1 H1,k p=some o->Up F H F1 H1->H a=none->F1 a=none->Own K F1 H1 a p->Q (.ref a) H1):ta σ H Q:=by
 rcases dC hb with⟨z,e,rfl⟩|⟨p,e,hk⟩
 ·exact h F H σ ρ Q _ R e P
 ·exact h F H σ ρ Q _ R e λa F1 H1 u n1 n2 w=>go p a F1 H1 hk u n1 n2 w
theorem MT.vz{tt:TT}{fe:Fn Bool}{Q:Bool->Hp->Prop}{k:Bool->Option Out}(h:MT K C tt fe)(R:RE K C.toCf F H σ ρ)(hb:jE (fe ρ) k=some o)(P:PO' K C F D o)
  (go:∀ b F1 H1,k b=some o->Up F H F1 H1->Q b H1):tt σ H Q:=by
 rcases dC hb with⟨z,e,rfl⟩|⟨p,e,hk⟩
 ·exact h F H σ ρ Q _ R e P
 ·exact h F H σ ρ Q _ R e λF1 H1 u=>go p F1 H1 hk u
def ie:Sn:=λρ=>some (.nx ρ)
def bK(f g:Sn):Sn:=λρ=>match f ρ with
 |some (.nx ρ')=>g ρ'
 |x=>x
theorem dW:MS K C PL ie:=λF H σ ρ D o R e P=>by
 cases e;exact P F H σ (aR.refl _) R
theorem aQ(h1:MS K C t f)(h2:MS K C u g):MS K C (Sh t u) (bK f g):=by
 intro F H σ ρ D o R e P;unfold bK at e;split at e
 ·rename_i ρ' h;refine h1 F H σ ρ _ _ R h ?_;exact λF' H' σ' s R'=>h2 F' H' σ' ρ' D o R' e (P.up s)
 ·rename_i x hx;cases o with
  |nx ρ'=>exact absurd e (hx ρ')
  |bk ρ=>exact h1 F H σ _ _ _ R e P
  |ct ρ=>exact h1 F H σ _ _ _ R e P
  |rt p=>exact h1 F H σ _ _ _ R e P
  |ro p=>exact h1 F H σ _ _ _ R e P
  |rd p=>exact h1 F H σ _ _ _ R e P
  |ex z=>exact h1 F H σ _ _ _ R e P
def MG(K:Frag)(C:Cg)(g:TG)(tg:PV->Rho->Option Rho):Prop:=
 ∀ F H σ ρ v p ρ' Q,RE K C.toCf F H σ ρ->Rep K F v p->tg p ρ=some ρ'->(∀ σ',RE K C.toCf F H σ' ρ'->Q σ' H)->g v σ H Q
def MGs(K:Frag)(C:Cg)(g:TGs)(tg:List PV->Rho->Option Rho):Prop:=
 ∀ F H σ ρ vs ps ρ' Q,RE K C.toCf F H σ ρ->bG K F vs ps->tg ps ρ=some ρ'->(∀ σ',RE K C.toCf F H σ' ρ'->Q σ' H)->g vs σ H Q
def gN(i:Nat):PV->Rho->Option Rho:=λp ρ=>some (ρ.set i (some (.sh p)))
theorem aK(i:Nat):MG K C (tY i) (gN i):=λF H σ ρ v p ρ' Q R r e k=>by
 cases e;exact k _ (R.set i r)
def gsNil:List PV->Rho->Option Rho
 |[],ρ=>some ρ
 |_::_,_=>none
def gsCons(t:PV->Rho->Option Rho)(u:List PV->Rho->Option Rho):List PV->Rho->Option Rho
 |[],_=>none
 |p::l,ρ=>match t p ρ with
  |some ρ'=>u l ρ'
  |none=>none
theorem nC:MGs K C Ss gsNil:=λF H σ ρ vs ps ρ' Q R r e k=>by
 cases ps with
 |nil=>cases e;exact⟨r.iC,k σ R⟩
 |cons p l=>cases e
theorem dg{g:TG}{gs:TGs}{tg:PV->Rho->Option Rho}{tgs:List PV->Rho->Option Rho}(h:MG K C g tg)(hs:MGs K C gs tgs):MGs K C (PN g gs) (gsCons tg tgs):=λF H σ ρ vs ps ρ' Q R r e k=>by
 cases ps with
 |nil=>cases e
 |cons p l=>
  obtain⟨v,ys,rfl,r1,r2⟩:=r.dB;have e':(match tg p ρ with
   |some ρ'=>tgs l ρ'
   |none=>none)=some ρ':=e
  split at e'
  ·rename_i ρ1 h1;exact⟨v,ys,rfl,h F H σ ρ v p ρ1 _ R r1 h1 λσ' R'=>hs F H σ' ρ1 ys l ρ' Q R' r2 e' k⟩
  ·cases e'
def gT(n:Nat)(t:List PV->Rho->Option Rho):PV->Rho->Option Rho:=λp ρ=>match p with
 |.tup l=>if l.length=n then t l ρ else none
 |_=>none
theorem rA{n:Nat}{gs:TGs}{tgs:List PV->Rho->Option Rho}(hs:MGs K C gs tgs):MG K C (QC K n gs) (gT n tgs):=λF H σ ρ v p ρ' Q R r e k=>by
 unfold gT at e;split at e
 ·rename_i l;split at e
  ·rename_i hn;obtain⟨a,xs,rfl,hq,rr⟩:=r.cg;exact⟨a,xs,rfl,R.rb.sub.tup hq,by rw[rr.1];exact hn,hs F H σ ρ xs l ρ' Q R rr e k⟩
  ·cases e
 ·cases e
def cN(fe:Fn PV)(tg:PV->Rho->Option Rho):Sn:=λρ=>jE (fe ρ) λp=>match tg p ρ with
 |some ρ'=>some (.nx ρ')
 |none=>none
theorem aZ{fe:Fn PV}{gt:TG}{tg:PV->Rho->Option Rho}(h:MJ K C (aF K) te fe)(hg:MG K C gt tg):MS K C (Gy te gt) (cN fe tg):=by
 intro F H σ ρ D o R e P;refine h.vz R e P λp v F1 H1 hk u a=>?_;split at hk
 ·rename_i ρ' h1;cases hk;exact hg F1 H1 σ ρ v p ρ' _ (R.up u) a h1 λσ' R'=>P F1 H1 σ' u.ff R'
 ·cases hk
def lR(i:Nat)(fe:Fn PV):Sn:=λρ=>jE (fe ρ) λp=>some (.nx (ρ.set i (some (.ow p))))
theorem j8{i:Nat}{fe:Fn PV}(nw:C.nw)(h:MO K C te fe):MS K C (Gy te (tY i)) (lR i fe):=by
 intro F H σ ρ D o R e P;refine h.vz R e P λp a F1 H1 hk u n1 n2 w=>?_;cases hk;exact P F1 H1 _ u.ff ((R.up u).Ut i w n2 nw (R.rb.zc n1) (λj q hj _=>R.apart n1 j q hj) (R.QX n1 u))
def gU(fe:Fn PV):Sn:=λρ=>jE (fe ρ) λp=>some (.rt p)
theorem cJ{fe:Fn PV}(h:MJ K C (aF K) te fe):MS K C (IK te) (gU fe):=by
 intro F H σ ρ D o R e P;refine h.vz R e P λp v F1 H1 hk u a=>?_;cases hk;exact P v F1 H1 u.ff (R.rb.up u) a
def vX(fe:Fn PV):Sn:=λρ=>jE (fe ρ) λp=>some (.ro p)
theorem xF{fe:Fn PV}(h:MO K C te fe):MS K C (IK te) (vX fe):=by
 intro F H σ ρ D o R e P;refine h.vz R e P λp a F1 H1 hk u n1 n2 w=>?_;cases hk;exact P a F1 H1 u.ff (R.rb.up u) w n2 (R.rb.zc n1)
def ownAt(i:Nat)(ρ:Rho):Option PV:=match ρ[i]? with
 |some (some (.ow p))=>some p
 |_=>none
theorem dh{i:Nat}{p:PV}(h:ownAt i ρ=some p):ρ[i]?=some (some (.ow p)):=by
 unfold ownAt at h;split at h
 ·rename_i q hq;cases h;exact hq
 ·cases h
def lU(i:Nat):Sn:=λρ=>match ownAt i ρ with
 |some p=>some (.ro p)
 |none=>none
theorem ug(i:Nat)(hio:∀ a,¬C.io a):MS K C (IK (pJ i)) (lU i):=by
 intro F H σ ρ D o R e P;unfold lU at e;split at e
 ·rename_i p hp;cases e;obtain⟨a,e1,e2,e3,e4⟩:=R.ow i p (dh hp);exact⟨_,e1,P a F H (aR.refl _) R.rb e2 e3 (e4.resolve_left (hio a)).2⟩
 ·cases e
def BZ(i:Nat)(ρ:Rho):Rho:=match ownAt i ρ with
 |some p=>ρ.set i (some (.sh p))
 |none=>ρ
theorem Jw(i:Nat)(hio:∀ a,¬C.io a)(h:MS K C t f):MS K C t (λρ=>f (BZ i ρ)):=by
 intro F H σ ρ D o R e P;have e:f (BZ i ρ)=some o:=e;unfold BZ at e;cases hp:ownAt i ρ with
 |none=>rw[hp] at e;exact h F H σ ρ D o R e P
 |some p=>
  rw[hp] at e;obtain⟨F',s,R'⟩:=R.frz (dh hp) λa _=>hio a;exact h F' H σ _ D o R' e (P.up s)
def sI(i:Nat)(fe:Fn PV):Sn:=λρ=>match ownAt i ρ with
 |some (.lst l)=>jE (fe ρ) λp=>if l.length<sizeLine then some (.nx (ρ.set i (some (.ow (.lst (l++[p])))))) else none
 |_=>none
theorem oR{i:Nat}{fe:Fn PV}(h:MJ K C (aF K) te fe):MS K C (Iz (tBM K "list" xg (pJ i) (jk te pK))) (sI i fe):=by
 intro F H σ ρ D o R e P;unfold sI at e;split at e
 ·rename_i l hl;obtain⟨a,g1,⟨xs,g2,g3⟩,g4,g5⟩:=R.ow i _ (dh hl);refine⟨_,g1,tyL g2,h.vz R e P λp v F1 H1 hk u w=>?_⟩;split at hk
  ·rename_i hlen;cases hk;obtain⟨a',k1,⟨ys,k2,k3⟩,k4,k5⟩:=(R.up u).ow i _ (dh hl);rw[g1] at k1;cases k1;refine⟨a,ys,v,rfl,rfl,k2,by rw[k3.1];exact hlen,?_⟩
   exact P F1 _ σ u.ff ((R.up u).write (dh hl) g1 ⟨_,aA,k3.snoc w⟩)
  ·cases hk
 ·cases e
def j9(fc:Fn Bool)(f g:Sn):Sn:=λρ=>jE (fc ρ) λb=>if b=true then f ρ else g ρ
theorem ig{c:TT}{fc:Fn Bool}(hc:MT K C c fc)(h1:MS K C t f)(h2:MS K C u g):MS K C (Sq c t u) (j9 fc f g):=by
 intro F H σ ρ D o R e P;refine hc.vz R e P λb F1 H1 hk uu=>?_;cases b with
 |true=>rw[Zal rfl] at hk ⊢;exact h1 F1 H1 σ ρ D o (R.up uu) hk (P.up uu.ff)
 |false=>rw[Zak (by decide)] at hk ⊢;exact h2 F1 H1 σ ρ D o (R.up uu) hk (P.up uu.ff)
structure ItR(K:Frag)(J:It)(F:Hp)(l:List PV):Prop where
 stop:∀ F' H',aR F F'->aR F' H'->J.stop l.length H'
 go:∀ i F' H',i<l.length->aR F F'->aR F' H'->J.go i H'
 yld:∀ i F' H' x H'',i<l.length->aR F F'->aR F' H'->J.yld i H' x H''->∃ F'' p,Up F' H' F'' H''/\l[i]?=some p/\Rep K F'' x p
def MI(K:Frag)(C:Cg)(wi:TI)(f:Fn (List PV)):Prop:=
 ∀ F H σ ρ R' r,RE K C.toCf F H σ ρ->f ρ=some r->Pr C F (λl=>∀ J F' H',Up F H F' H'->ItR K J F' l->R' J H') r->wi σ H R'
def loop(tg:PV->Rho->Option Rho)(body:Sn):List PV->Rho->Option Out
 |[],ρ=>some (.nx ρ)
 |x::xs,ρ=>match tg x ρ with
  |none=>none
  |some ρ1=>match body ρ1 with
   |some (.nx ρ2)=>loop tg body xs ρ2
   |some (.ct ρ2)=>loop tg body xs ρ2
   |some (.bk ρ2)=>some (.nx ρ2)
   |x=>x
def kh(it:Fn (List PV))(tg:PV->Rho->Option Rho)(body:Sn):Sn:=λρ=>jE (it ρ) λl=>loop tg body l ρ
theorem vY{J:It}{gt:TG}{tg:PV->Rho->Option Rho}{l:List PV}(hg:MG K C gt tg)(hb:MS K C t f)(hJ:ItR K J F l)(R:RE K C.toCf F H σ ρ)(e:loop tg f l ρ=some o)(P:PO' K C F D o):Us J gt t D σ H:=by
 refine⟨λi m σ' H'=>∃ F' ρ',m=l.length-i/\i<=l.length/\aR F F'/\RE K C.toCf F' H' σ' ρ'/\loop tg f (l.drop i) ρ'=some o,⟨l.length,F,ρ,by simp,Zba _,aR.refl _,R,by rw[Zbo];exact e⟩,?_⟩
 rintro i m σ' H' ⟨F',ρ',rfl,hi,s,R',e'⟩;by_cases hlt:i<l.length
 ·refine .inr ⟨hJ.go i F' H' hlt s R'.rb.sub,λσ2 H2=>∃ F2 ρ2,aR F F2/\RE K C.toCf F2 H2 σ2 ρ2/\loop tg f (l.drop (i+1)) ρ2=some o,λσ2 H2 ⟨F2,ρ2,s2,R2,e2⟩=>⟨l.length-(i+1),by omega,F2,ρ2,rfl,hlt,s2,R2,e2⟩,λx H'' y=>?_⟩
  obtain⟨F'',p,u,ep,rx⟩:=hJ.yld i F' H' x H'' hlt s R'.rb.sub y;have ed:l.drop i=p::l.drop (i+1):=by
   rw[Za7 hlt];rw[Zaa hlt] at ep;rw[Zah ep]
  rw[ed,loop] at e';split at e'
  ·cases e'
  ·rename_i ρ1 h1;refine hg F'' H'' σ' ρ' x p ρ1 _ (R'.up u) rx h1 λσ1 R1=>?_;have sF:aR F F'':=s.trans u.ff;split at e'
   ·rename_i ρ2 h2;exact hb F'' H'' σ1 ρ1 _ _ R1 h2 λF3 H3 σ3 s3 R3=>⟨F3,ρ2,sF.trans s3,R3,e'⟩
   ·rename_i ρ2 h2;exact hb F'' H'' σ1 ρ1 _ _ R1 h2 λF3 H3 σ3 s3 R3=>⟨F3,ρ2,sF.trans s3,R3,e'⟩
   ·rename_i ρ2 h2;cases e';exact hb F'' H'' σ1 ρ1 _ _ R1 h2 λF3 H3 σ3 s3 R3=>P F3 H3 σ3 (sF.trans s3) R3
   ·rename_i n1 n2 n3;cases o with
    |nx ρ2=>exact absurd e' (n1 ρ2)
    |ct ρ2=>exact absurd e' (n2 ρ2)
    |bk ρ2=>exact absurd e' (n3 ρ2)
    |rt p=>exact hb F'' H'' σ1 ρ1 _ _ R1 e' (PO'.up (D:=D) P sF)
    |ro p=>exact hb F'' H'' σ1 ρ1 _ _ R1 e' (PO'.up (D:=D) P sF)
    |rd p=>exact hb F'' H'' σ1 ρ1 _ _ R1 e' (PO'.up (D:=D) P sF)
    |ex z=>exact hb F'' H'' σ1 ρ1 _ _ R1 e' (PX.up P sF)
 ·have ei:i=l.length:=by omega
  subst ei;rw[List.drop_length] at e';cases e';exact .inl ⟨hJ.stop F' H' s R'.rb.sub,P F' H' σ' s R'⟩
theorem fK{wi:TI}{it:Fn (List PV)}{gt:TG}{tg:PV->Rho->Option Rho}(hi:MI K C wi it)(hg:MG K C gt tg)(hb:MS K C t f):MS K C (QD wi gt t) (kh it tg f):=by
 intro F H σ ρ D o R e P;rcases dC e with⟨z,e1,rfl⟩|⟨l,e1,hk⟩
 ·exact hi F H σ ρ _ _ R e1 P
 ·exact hi F H σ ρ _ _ R e1 λJ F' H' u hJ=>vY hg hb hJ (R.up u) hk (P.up u.ff)
end
def eqL(f:PV->PV->Option Bool):List PV->List PV->Option Bool
 |[],[]=>some true
 |[],_::_=>some false
 |_::_,[]=>some false
 |x::xs,y::ys=>match f x y,eqL f xs ys with
  |some a,some b=>some (a&&b)
  |_,_=>none
def eqF:Nat->PV->PV->Option Bool
 |_,.non,.non=>some true
 |_,.non,.bl _=>some false
 |_,.non,.int _=>some false
 |_,.non,.str _=>some false
 |_,.bl _,.non=>some false
 |_,.bl a,.bl b=>some (decide (a=b))
 |_,.bl _,.str _=>some false
 |_,.int _,.non=>some false
 |_,.int a,.int b=>some (decide (a=b))
 |_,.int _,.str _=>some false
 |_,.str _,.non=>some false
 |_,.str _,.bl _=>some false
 |_,.str _,.int _=>some false
 |_,.str a,.str b=>some (decide (a=b))
 |_,.non,.tup _=>some false
 |_,.tup _,.non=>some false
 |_,.non,.lst _=>some false
 |_,.lst _,.non=>some false
 |_,.int _,.tup _=>some false
 |_,.tup _,.int _=>some false
 |_,.str _,.tup _=>some false
 |_,.tup _,.str _=>some false
 |_,.int _,.lst _=>some false
 |_,.lst _,.int _=>some false
 |_,.str _,.lst _=>some false
 |_,.lst _,.str _=>some false
 |_,.lst _,.tup _=>some false
 |_,.tup _,.lst _=>some false
 |n+1,.tup l,.tup m=>eqL (eqF n) l m
 |n+1,.lst l,.lst m=>if l.length=m.length then eqL (eqF n) l m else some false
 |_,_,_=>none
theorem lV{f:PV->PV->Option Bool}(h:∀ p r,f p p=some r->r=true):∀ {l:List PV}{r:Bool},eqL f l l=some r->r=true
 |[],r,e=>by cases e;rfl
 |x::xs,r,e=>by
  rw[eqL] at e;split at e
  ·rename_i a b h1 h2;cases e;rw[h x a h1,lV h h2];rfl
  ·cases e
theorem zg:∀ (n:Nat) (p:PV) (r:Bool),eqF n p p=some r->r=true
 |n,p,r,e=>by
  induction n generalizing p r with
  |zero=>cases p<;>first|(cases (show some true=some r from e);rfl)|(cases (show some (decide _)=some r from e);exact ZaD rfl)|cases (show none=some r from e)
  |succ n ih=>
   cases p with
   |tup l=>exact lV ih e
   |lst l=>
    have e:(if l.length=l.length then eqL (eqF n) l l else some false)=some r:=e;rw[Zal rfl] at e;exact lV ih e
   |_=>first|(cases (show some true=some r from e);rfl)|(cases (show some (decide _)=some r from e);exact ZaD rfl)|cases (show none=some r from e)
theorem xG{f:PV->PV->Option Bool}:∀ {l m:List PV}{r:Bool},eqL f l m=some r->∃ e:Nat->Bool,(∀ (j:Nat) x y,l[j]?=some x->m[j]?=some y->f x y=some (e j))/\r=((List.range (min l.length m.length)).all e&&l.length==m.length)
 |[],[],r,h=>⟨λ_=>true,λj x y a=>by simp at a,by cases h;rfl⟩
 |[],_::_,r,h=>⟨λ_=>true,λj x y a=>by simp at a,by cases h;simp⟩
 |_::_,[],r,h=>⟨λ_=>true,λj x y _ a=>by simp at a,by cases h;simp⟩
 |x::xs,y::ys,r,h=>by
  rw[eqL] at h;split at h
  ·rename_i a b h1 h2;cases h;obtain⟨e,e1,e2⟩:=xG h2;refine⟨λj=>match j with|0=>a|j+1=>e j,λj x' y' a' b'=>?_,?_⟩
   ·cases j with
    |zero=>simp at a' b';subst a' b';exact h1
    |succ j=>exact e1 j x' y' (by simpa using a') (by simpa using b')
   ·rw[e2,ZaN,ZaN,Nat.succ_min_succ,List.range_succ_eq_map,List.all_cons,List.all_map];have:((xs.length+1==ys.length+1):Bool)=(xs.length==ys.length):=by
     rw[Bool.eq_iff_iff];simp
    rw[this];cases a<;>simp[Function.comp_def]
  ·cases h
section
variable{X:Cx}{pins:List (Addr×Obj)}{σ:St}{H:Hp}{s:Shared}
theorem Rep.kinds(I:Inv X pins σ H s){a:Addr}{xs ys:List V}(h1:SqL X.K H a xs)(h2:SqT X.K H a ys):False:=by
 obtain⟨_,_,p1,_⟩:=I.list h1;obtain⟨_,_,p2,_⟩:=I.tuple h2;obtain⟨o,n,e,c,_⟩:=p1;obtain⟨o',e',c',_⟩:=p2;rw[e] at e';cases e';rw[c] at c';exact absurd c' (by decide)
theorem zj{xs:List V}{l m:List PV}(h1:xs.length=l.length)(h2:xs.length=m.length)(h:∀ (j:Nat) x p q,xs[j]?=some x->l[j]?=some p->m[j]?=some q->p=q):l=m:=by
 apply Zbj
 intro j;by_cases hj:j<xs.length
 ·have hl:j<l.length:=by lia
  have hm:j<m.length:=by lia
  rw[Zaa hl,Zaa hm,h j xs[j] l[j] m[j] (by simp[hj]) (by simp[hl]) (by simp[hm])]
 ·rw[Zat (by lia),Zat (by lia)]
def HO.isDict:HO->Bool
 |.dK _=>true
 |.dT _=>true
 |_=>false
theorem M8{H:Hp}{a:Addr}{u v:HO}(hu:HO.isDict u=true)(hv:HO.isDict v=true)(h:Rd H a u)(h':Rd H a v):u=v:=by
 rcases h with h|⟨o,h⟩<;>rcases h' with h'|⟨o',h'⟩<;>rw[h] at h'<;>cases h'
 ·rfl
 ·cases hu
 ·cases hv
 ·rfl
theorem xH{H:Hp}{a:Addr}{u v:HO}(h:Rd H a u)(h':Rd H a v)(hu:HO.isDict u=true:=by rfl)(hv:HO.isDict v=true:=by rfl):u=v:=M8 hu hv h h'
theorem Rep.noDict(I:Inv X pins σ H s){a:Addr}{ks:List (Key×V)}{ts:List (List Key×V)}(h1:Rd H a (.dK ks)\/Rd H a (.dT ts))(h2:(∃ xs,SqL X.K H a xs)\/∃ xs,SqT X.K H a xs):False:=by
 have d:∃ o es ep,s.heap.get? a=some o/\o.data=.dict es ep:=by
  rcases h1 with h1|h1
  ·obtain⟨_,_,_,_,o,es,ep,e,x,d,_⟩:=h1.ok I.hok;exact⟨o,es,ep,e,d⟩
  ·obtain⟨_,_,_,_,o,es,ep,e,x,d,_⟩:=h1.ok I.hok;exact⟨o,es,ep,e,d⟩
 obtain⟨o,es,ep,e,d⟩:=d;rcases h2 with⟨xs,h2⟩|⟨xs,h2⟩
 ·obtain⟨_,_,p1,_⟩:=I.list h2;obtain⟨o',n,e',_,_,d'⟩:=p1;rw[e] at e';cases e';rw[d] at d';cases d'
 ·obtain⟨_,_,p1,_⟩:=I.tuple h2;obtain⟨o',e',_,n,d'⟩:=p1;rw[e] at e';cases e';rw[d] at d';cases d'
theorem XO.at(I:Inv X pins σ H s){a C:Addr}{d:Option Addr}(h:H a=some (XO a C d)):∃ vs:Array Value,s.heap.get? a=some { cls:=.ref C,dict:=d,data:=.fields vs }:=(I.hok _ _ h).1
theorem XO.inj(I:Inv X pins σ H s){a C C':Addr}{d d':Option Addr}(h:H a=some (XO a C d))(h':H a=some (XO a C' d')):C=C'/\d=d':=by
 obtain⟨vs,e⟩:=XO.at I h;obtain⟨vs',e'⟩:=XO.at I h';rw[e] at e';cases e';exact⟨rfl,rfl⟩
theorem XO.noSeq(I:Inv X pins σ H s){a C:Addr}{d:Option Addr}(h:H a=some (XO a C d))(h2:(∃ xs,SqL X.K H a xs)\/∃ xs,SqT X.K H a xs):False:=by
 obtain⟨vs,e⟩:=XO.at I h;rcases h2 with⟨xs,h2⟩|⟨xs,h2⟩
 ·obtain⟨_,_,p1,_⟩:=I.list h2;obtain⟨o',n,e',_,_,d'⟩:=p1;rw[e] at e';cases e';cases d'
 ·obtain⟨_,_,p1,_⟩:=I.tuple h2;obtain⟨o',e',_,n,d'⟩:=p1;rw[e] at e';cases e';cases d'
theorem XNm.inj{K:Frag}{C:Addr}{c c':Str}(a:XNm K C c)(b:XNm K C c'):c=c':=by
 obtain⟨cd,h1,h2⟩:=a.cl;obtain⟨cd',h1',h2'⟩:=b.cl;rw[h1] at h1';cases h1';exact h2.symm.trans h2'
theorem Rep.inj(I:Inv X pins σ H s){x:V}{p:PV}(h:Rep X.K H x p):∀ {q:PV},Rep X.K H x q->p=q:=by
 have pairs:∀ {κ:Type}{xs:List (κ×V)}{l m:List (κ×PV)},xs.map (·.1)=l.map (·.1)->xs.map (·.1)=m.map (·.1)->(∀ (j:Nat) x p q,xs[j]?=some x->l[j]?=some p->m[j]?=some q->p.2=q.2)->l=m:=by
  intro κ xs l m h1 h2 h3;have l1:xs.length=l.length:=by simpa using ZbI List.length h1
  have l2:xs.length=m.length:=by simpa using ZbI List.length h2
  apply Zbj
  intro j;by_cases hj:j<xs.length
  ·have hl:j<l.length:=by lia
   have hm:j<m.length:=by lia
   rw[Zaa hl,Zaa hm];have k:=ZbI (·[j]?) (h1.symm.trans h2);simp[hl,hm] at k;have v:=h3 j xs[j] l[j] m[j] (by simp[hj]) (by simp[hl]) (by simp[hm])
   rw[Prod.ext k v]
  ·rw[Zat (by lia),Zat (by lia)]
 induction h with
 |non=>intro q h';cases h';rfl
 |bl=>intro q h';cases h';rfl
 |int=>intro q h';cases h';rfl
 |str=>intro q h';cases h';rfl
 |ty=>intro q h';cases h';rfl
 |@tup a xs l h hl _ ih=>
  intro q h';have h:=SqT.of (K:=X.K) h;cases h' with
  |tup h2 hl2 hr2=>
   cases I.vL h (SqT.of (K:=X.K) h2);rw[zj hl hl2 λj x p q e1 e2 e3=>ih j x p e1 e2 (hr2 j x q e1 e3)]
  |lst h2=>exact(Rep.kinds I h2 h).elim
  |dk h2=>exact(Rep.noDict I (ts:=[]) (.inl h2) (.inr ⟨_,h⟩)).elim
  |dt h2=>exact(Rep.noDict I (ks:=[]) (.inr h2) (.inr ⟨_,h⟩)).elim
  |exc _ h2=>exact(XO.noSeq I h2 (.inr ⟨_,h⟩)).elim
  |exc0 _ h2=>exact(XO.noSeq I h2 (.inr ⟨_,h⟩)).elim
 |@lst a xs l h hl _ ih=>
  intro q h';cases h' with
  |tup h2=>exact(Rep.kinds I h (SqT.of h2)).elim
  |lst h2 hl2 hr2=>
   cases I.tX h h2;rw[zj hl hl2 λj x p q e1 e2 e3=>ih j x p e1 e2 (hr2 j x q e1 e3)]
  |dk h2=>exact(Rep.noDict I (ts:=[]) (.inl h2) (.inl ⟨_,h⟩)).elim
  |dt h2=>exact(Rep.noDict I (ks:=[]) (.inr h2) (.inl ⟨_,h⟩)).elim
  |exc _ h2=>exact(XO.noSeq I h2 (.inl ⟨_,h⟩)).elim
  |exc0 _ h2=>exact(XO.noSeq I h2 (.inl ⟨_,h⟩)).elim
 |@dk a xs l h hl _ ih=>
  intro q h';cases h' with
  |tup h2=>exact(Rep.noDict I (ts:=[]) (.inl h) (.inr ⟨_,SqT.of h2⟩)).elim
  |lst h2=>exact(Rep.noDict I (ts:=[]) (.inl h) (.inl ⟨_,h2⟩)).elim
  |dk h2 hl2 hr2=>
   cases (xH h h2);rw[pairs hl hl2 λj x p q e1 e2 e3=>ih j x p e1 e2 (hr2 j x q e1 e3)]
  |dt h2=>cases xH h h2
  |exc _ h2=>rcases h with h|⟨o,h⟩<;>rw[h] at h2<;>cases h2
  |exc0 _ h2=>rcases h with h|⟨o,h⟩<;>rw[h] at h2<;>cases h2
 |@dt a xs l h hl _ ih=>
  intro q h';cases h' with
  |tup h2=>exact(Rep.noDict I (ks:=[]) (.inr h) (.inr ⟨_,SqT.of h2⟩)).elim
  |lst h2=>exact(Rep.noDict I (ks:=[]) (.inr h) (.inl ⟨_,h2⟩)).elim
  |dk h2=>cases xH h h2
  |dt h2 hl2 hr2=>
   cases (xH h h2);rw[pairs hl hl2 λj x p q e1 e2 e3=>ih j x p e1 e2 (hr2 j x q e1 e3)]
  |exc _ h2=>rcases h with h|⟨o,h⟩<;>rw[h] at h2<;>cases h2
  |exc0 _ h2=>rcases h with h|⟨o,h⟩<;>rw[h] at h2<;>cases h2
 |@exc a C dx c xs l nm h hd hl _ ih=>
  intro q h';cases h' with
  |tup h2=>exact(XO.noSeq I h (.inr ⟨_,SqT.of h2⟩)).elim
  |lst h2=>exact(XO.noSeq I h (.inl ⟨_,h2⟩)).elim
  |dk h2=>rcases h2 with h2|⟨o,h2⟩<;>rw[h] at h2<;>cases h2
  |dt h2=>rcases h2 with h2|⟨o,h2⟩<;>rw[h] at h2<;>cases h2
  |exc nm2 h2 hd2 hl2 hr2=>
   obtain⟨rfl,e⟩:=XO.inj I h h2;cases e;rw[hd] at hd2;cases hd2;cases XNm.inj nm nm2;rw[pairs hl hl2 λj x p q e1 e2 e3=>ih j x p e1 e2 (hr2 j x q e1 e3)]
  |exc0 nm2 h2=>cases (XO.inj I h h2).2
 |@exc0 a C c nm h=>
  intro q h';cases h' with
  |tup h2=>exact(XO.noSeq I h (.inr ⟨_,SqT.of h2⟩)).elim
  |lst h2=>exact(XO.noSeq I h (.inl ⟨_,h2⟩)).elim
  |dk h2=>rcases h2 with h2|⟨o,h2⟩<;>rw[h] at h2<;>cases h2
  |dt h2=>rcases h2 with h2|⟨o,h2⟩<;>rw[h] at h2<;>cases h2
  |exc nm2 h2=>cases (XO.inj I h h2).2
  |exc0 nm2 h2=>
   obtain⟨rfl,_⟩:=XO.inj I h h2;cases XNm.inj nm nm2;rfl
theorem Jx(I:Inv X pins σ H s):∀ {A:Around}{x y:V}{p q:PV}{r:Bool}{u v:Value},A.units<cLine->eqF 0 p q=some r->Rep X.K H x p->Rep X.K H y q->RelV x u->RelV y v ->
  SeqAt.RcAt A s u v r/\SeqAt.EqAt A s u v r/\SeqAt.RcNeAt A s u v (!r):=by
 intro A x y p q r u v hu e rx ry ru rv;have hu0:A.units<cLine:=hu
 match p,q,e with
 |.non,.non,e=>
  have e:=Zah e;subst e;cases Rep.fG rx;cases Rep.fG ry;cases ru;cases rv;exact⟨SeqAt.RcAt.none_none,SeqAt.EqAt.same _,SeqAt.RcNeAt.none_none⟩
 |.non,.bl b,e=>
  have e:=Zah e;subst e;cases Rep.fG rx;cases Rep.j7 ry;cases ru;cases rv;exact⟨SeqAt.RcAt.none_bool _,SeqAt.EqAt.none_bool _,SeqAt.RcNeAt.none_bool _⟩
 |.non,.int b,e=>
  have e:=Zah e;subst e;cases Rep.fG rx;cases Rep.bf ry;cases ru;obtain⟨tb,rfl⟩:=rv;exact⟨SeqAt.RcAt.none_int _ _,SeqAt.EqAt.none_int _ _,SeqAt.RcNeAt.none_int _ _⟩
 |.non,.str b,e=>
  have e:=Zah e;subst e;cases Rep.fG rx;cases Rep.bJ ry;cases ru;obtain⟨tb,rfl⟩:=rv;exact⟨SeqAt.RcAt.none_str _ _,SeqAt.EqAt.none_str _ _,SeqAt.RcNeAt.none_str _ _⟩
 |.bl a,.non,e=>
  have e:=Zah e;subst e;cases Rep.j7 rx;cases Rep.fG ry;cases ru;cases rv;exact⟨SeqAt.RcAt.bool_none _,SeqAt.EqAt.bool_none _,SeqAt.RcNeAt.bool_none _⟩
 |.bl a,.bl b,e=>
  have e:=Zah e;subst e;cases Rep.j7 rx;cases Rep.j7 ry;cases ru;cases rv;rw[<-Bool.beq_eq_decide_eq];exact⟨SeqAt.RcAt.bool_bool _ _,SeqAt.EqAt.bool_bool _ _,SeqAt.RcNeAt.bool_bool _ _⟩
 |.bl a,.str b,e=>
  have e:=Zah e;subst e;cases Rep.j7 rx;cases Rep.bJ ry;cases ru;obtain⟨tb,rfl⟩:=rv;exact⟨SeqAt.RcAt.bool_str _ _ _,SeqAt.EqAt.bool_str _ _ _,SeqAt.RcNeAt.bool_str _ _ _⟩
 |.int a,.non,e=>
  have e:=Zah e;subst e;cases Rep.bf rx;cases Rep.fG ry;obtain⟨ta,rfl⟩:=ru;cases rv;exact⟨SeqAt.RcAt.int_none _ _,SeqAt.EqAt.int_none _ _,SeqAt.RcNeAt.int_none _ _⟩
 |.int a,.int b,e=>
  have e:=Zah e;subst e;cases Rep.bf rx;cases Rep.bf ry;obtain⟨ta,rfl⟩:=ru;obtain⟨tb,rfl⟩:=rv;rw[<-Bool.beq_eq_decide_eq];exact⟨SeqAt.RcAt.int_int _ _ _ _,SeqAt.EqAt.int_int _ _ _ _,SeqAt.RcNeAt.int_int _ _ _ _⟩
 |.int a,.str b,e=>
  have e:=Zah e;subst e;cases Rep.bf rx;cases Rep.bJ ry;obtain⟨ta,rfl⟩:=ru;obtain⟨tb,rfl⟩:=rv;exact⟨SeqAt.RcAt.int_str _ _ _ _,SeqAt.EqAt.int_str _ _ _ _,SeqAt.RcNeAt.int_str _ _ _ _⟩
 |.str a,.non,e=>
  have e:=Zah e;subst e;cases Rep.bJ rx;cases Rep.fG ry;obtain⟨ta,rfl⟩:=ru;cases rv;exact⟨SeqAt.RcAt.str_none _ _,SeqAt.EqAt.str_none _ _,SeqAt.RcNeAt.str_none _ _⟩
 |.str a,.bl b,e=>
  have e:=Zah e;subst e;cases Rep.bJ rx;cases Rep.j7 ry;obtain⟨ta,rfl⟩:=ru;cases rv;exact⟨SeqAt.RcAt.str_bool _ _ _,SeqAt.EqAt.str_bool _ _ _,SeqAt.RcNeAt.str_bool _ _ _⟩
 |.str a,.int b,e=>
  have e:=Zah e;subst e;cases Rep.bJ rx;cases Rep.bf ry;obtain⟨ta,rfl⟩:=ru;obtain⟨tb,rfl⟩:=rv;exact⟨SeqAt.RcAt.str_int _ _ _ _,SeqAt.EqAt.str_int _ _ _ _,SeqAt.RcNeAt.str_int _ _ _ _⟩
 |.str a,.str b,e=>
  have e:=Zah e;subst e;cases Rep.bJ rx;cases Rep.bJ ry;obtain⟨ta,rfl⟩:=ru;obtain⟨tb,rfl⟩:=rv;rw[<-Bool.beq_eq_decide_eq];exact⟨SeqAt.RcAt.str_str _ _ _ _,SeqAt.EqAt.str_str _ _ _ _,SeqAt.RcNeAt.str_str _ _ _ _⟩
 |.tup a,.non,e=>
  have e:=Zah e;subst e;obtain⟨aa,xsa,rfl,ha,_⟩:=rx.cg;cases ru;obtain⟨_,_,pa,_⟩:=I.tuple ha;cases Rep.fG ry;cases rv;exact⟨SeqAt.RcAt.tuple_none pa hu0,SeqAt.EqAt.tuple_none pa hu0,SeqAt.RcNeAt.tuple_none pa hu0⟩
 |.non,.tup b,e=>
  have e:=Zah e;subst e;cases Rep.fG rx;cases ru;obtain⟨ab,xsb,rfl,hb,_⟩:=ry.cg;cases rv;obtain⟨_,_,pb,_⟩:=I.tuple hb;exact⟨SeqAt.RcAt.none_tuple pb hu0,SeqAt.EqAt.none_tuple pb hu0,SeqAt.RcNeAt.none_tuple pb hu0⟩
 |.tup a,.int b,e=>
  have e:=Zah e;subst e;obtain⟨aa,xsa,rfl,ha,_⟩:=rx.cg;cases ru;obtain⟨_,_,pa,_⟩:=I.tuple ha;cases Rep.bf ry;obtain⟨tb,rfl⟩:=rv;exact⟨SeqAt.RcAt.tuple_int _ _ pa hu0,SeqAt.EqAt.tuple_int _ _ pa hu0,SeqAt.RcNeAt.tuple_int _ _ pa hu0⟩
 |.int a,.tup b,e=>
  have e:=Zah e;subst e;cases Rep.bf rx;obtain⟨ta,rfl⟩:=ru;obtain⟨ab,xsb,rfl,hb,_⟩:=ry.cg;cases rv;obtain⟨_,_,pb,_⟩:=I.tuple hb;exact⟨SeqAt.RcAt.int_tuple _ _ pb hu0,SeqAt.EqAt.int_tuple _ _ pb hu0,SeqAt.RcNeAt.int_tuple _ _ pb hu0⟩
 |.tup a,.str b,e=>
  have e:=Zah e;subst e;obtain⟨aa,xsa,rfl,ha,_⟩:=rx.cg;cases ru;obtain⟨_,_,pa,_⟩:=I.tuple ha;cases Rep.bJ ry;obtain⟨tb,rfl⟩:=rv;exact⟨SeqAt.RcAt.tuple_str _ _ pa hu0,SeqAt.EqAt.tuple_str _ _ pa hu0,SeqAt.RcNeAt.tuple_str _ _ pa hu0⟩
 |.str a,.tup b,e=>
  have e:=Zah e;subst e;cases Rep.bJ rx;obtain⟨ta,rfl⟩:=ru;obtain⟨ab,xsb,rfl,hb,_⟩:=ry.cg;cases rv;obtain⟨_,_,pb,_⟩:=I.tuple hb;exact⟨SeqAt.RcAt.str_tuple _ _ pb hu0,SeqAt.EqAt.str_tuple _ _ pb hu0,SeqAt.RcNeAt.str_tuple _ _ pb hu0⟩
 |.lst a,.non,e=>
  have e:=Zah e;subst e;obtain⟨aa,xsa,rfl,ha,_⟩:=rx.cj;cases ru;obtain⟨_,_,pa,_⟩:=I.list ha;cases Rep.fG ry;cases rv;exact⟨SeqAt.RcAt.list_none pa.isList hu0,SeqAt.EqAt.list_none pa.isList hu0,SeqAt.RcNeAt.list_none pa.isList hu0⟩
 |.non,.lst b,e=>
  have e:=Zah e;subst e;cases Rep.fG rx;cases ru;obtain⟨ab,xsb,rfl,hb,_⟩:=ry.cj;cases rv;obtain⟨_,_,pb,_⟩:=I.list hb;exact⟨SeqAt.RcAt.none_list pb.isList hu0,SeqAt.EqAt.none_list pb.isList hu0,SeqAt.RcNeAt.none_list pb.isList hu0⟩
 |.lst a,.int b,e=>
  have e:=Zah e;subst e;obtain⟨aa,xsa,rfl,ha,_⟩:=rx.cj;cases ru;obtain⟨_,_,pa,_⟩:=I.list ha;cases Rep.bf ry;obtain⟨tb,rfl⟩:=rv;exact⟨SeqAt.RcAt.list_int _ _ pa.isList hu0,SeqAt.EqAt.list_int _ _ pa.isList hu0,SeqAt.RcNeAt.list_int _ _ pa.isList hu0⟩
 |.int a,.lst b,e=>
  have e:=Zah e;subst e;cases Rep.bf rx;obtain⟨ta,rfl⟩:=ru;obtain⟨ab,xsb,rfl,hb,_⟩:=ry.cj;cases rv;obtain⟨_,_,pb,_⟩:=I.list hb;exact⟨SeqAt.RcAt.int_list _ _ pb.isList hu0,SeqAt.EqAt.int_list _ _ pb.isList hu0,SeqAt.RcNeAt.int_list _ _ pb.isList hu0⟩
 |.lst a,.str b,e=>
  have e:=Zah e;subst e;obtain⟨aa,xsa,rfl,ha,_⟩:=rx.cj;cases ru;obtain⟨_,_,pa,_⟩:=I.list ha;cases Rep.bJ ry;obtain⟨tb,rfl⟩:=rv;exact⟨SeqAt.RcAt.list_str _ _ pa.isList hu0,SeqAt.EqAt.list_str _ _ pa.isList hu0,SeqAt.RcNeAt.list_str _ _ pa.isList hu0⟩
 |.str a,.lst b,e=>
  have e:=Zah e;subst e;cases Rep.bJ rx;obtain⟨ta,rfl⟩:=ru;obtain⟨ab,xsb,rfl,hb,_⟩:=ry.cj;cases rv;obtain⟨_,_,pb,_⟩:=I.list hb;exact⟨SeqAt.RcAt.str_list _ _ pb.isList hu0,SeqAt.EqAt.str_list _ _ pb.isList hu0,SeqAt.RcNeAt.str_list _ _ pb.isList hu0⟩
 |.lst a,.tup b,e=>
  have e:=Zah e;subst e;obtain⟨aa,xsa,rfl,ha,_⟩:=rx.cj;cases ru;obtain⟨_,_,pa,_⟩:=I.list ha;obtain⟨ab,xsb,rfl,hb,_⟩:=ry.cg;cases rv;obtain⟨_,_,pb,_⟩:=I.tuple hb;exact⟨SeqAt.RcAt.list_tuple pa.isList pb hu0,SeqAt.EqAt.list_tuple pa.isList pb hu0,SeqAt.RcNeAt.list_tuple pa.isList pb hu0⟩
 |.tup a,.lst b,e=>
  have e:=Zah e;subst e;obtain⟨aa,xsa,rfl,ha,_⟩:=rx.cg;cases ru;obtain⟨_,_,pa,_⟩:=I.tuple ha;obtain⟨ab,xsb,rfl,hb,_⟩:=ry.cj;cases rv;obtain⟨_,_,pb,_⟩:=I.list hb;exact⟨SeqAt.RcAt.tuple_list pa pb.isList hu0,SeqAt.EqAt.tuple_list pa pb.isList hu0,SeqAt.RcNeAt.tuple_list pa pb.isList hu0⟩
def Jy:PV->PV->Bool
 |.tup _,.tup _=>true
 |.lst _,.lst _=>true
 |_,_=>false
theorem Jz{n:Nat}{p q:PV}(h:Jy p q=false):eqF (n+1) p q=eqF 0 p q:=by
 cases p<;>cases q<;>first|rfl|cases h
theorem Hf:∀ {p q:PV},Jy p q=true->(∃ l m,p=.tup l/\q=.tup m)\/∃ l m,p=.lst l/\q=.lst m
 |.tup l,q,h=>by
  cases q with
  |tup m=>exact .inl ⟨l,m,rfl,rfl⟩
  |_=>cases h
 |.lst l,q,h=>by
  cases q with
  |lst m=>exact .inr ⟨l,m,rfl,rfl⟩
  |_=>cases h
theorem JB(I:Inv X pins σ H s):∀ (n:Nat) {A:Around}{x y:V}{p q:PV}{r:Bool}{u v:Value},A.units+n<cLine->eqF n p q=some r->Rep X.K H x p->Rep X.K H y q->RelV x u->RelV y v ->
  SeqAt.RcAt A s u v r/\SeqAt.EqAt A s u v r/\SeqAt.RcNeAt A s u v (!r):=by
 intro n;induction n with
 |zero=>exact λhu e=>Jx I (by lia) e
 |succ n ih=>
  intro A x y p q r u v hu e rx ry ru rv;have hu0:A.units<cLine:=by lia
  cases hr:Jy p q with
  |false=>exact Jx I hu0 (by rw[<-Jz hr];exact e) rx ry ru rv
  |true=>
  rcases Hf hr with⟨l,m,rfl,rfl⟩|⟨l,m,rfl,rfl⟩
  ·have e:eqL (eqF n) l m=some r:=e;obtain⟨a,xs,rfl,ha,r1⟩:=rx.cg;obtain⟨b,ys,rfl,hb,r2⟩:=ry.cg;cases ru;cases rv;obtain⟨i1,v1,t1,_⟩:=I.tuple ha;obtain⟨i2,v2,t2,_⟩:=I.tuple hb;obtain⟨g,g1,g2⟩:=xG e;have hj:∀ j (h1:j<i1.toArray.size) (h2:j<i2.toArray.size),SeqAt.EqAt A.in1 s i1.toArray[j] i2.toArray[j] (g j):=λj h1 h2=>by
    obtain⟨x,hx,rx'⟩:=pQ v1 h1;obtain⟨y,hy,ry'⟩:=pQ v2 h2;obtain⟨p',hp,rp⟩:=r1.got hx;obtain⟨q',hq,rq⟩:=r2.got hy;exact(ih (A:=A.in1) (show A.units+1+n<cLine by lia) (g1 j p' q' hp hq) rp rq rx' ry').2.1
   have rc:=SeqAt.RcAt.tuples (A:=A) (e:=g) t1 t2 hu0 hj;have rn:=SeqAt.RcNeAt.tuples (A:=A) (e:=g) t1 t2 hu0 hj;rw[List.size_toArray,List.size_toArray,<-v1.length,<-v2.length,r1.1,r2.1,<-g2] at rc rn;refine⟨rc,?_,rn⟩;by_cases hab:a=b
   ·subst hab;have epq:PV.tup l=PV.tup m:=Rep.inj I rx ry;cases epq;have er:=lV (zg n) e;subst er;exact SeqAt.EqAt.same _
   ·exact .of_refs hab rc
  ·obtain⟨a,xs,rfl,ha,r1⟩:=rx.cj;obtain⟨b,ys,rfl,hb,r2⟩:=ry.cj;cases ru;cases rv;obtain⟨i1,v1,t1,_⟩:=I.list ha;obtain⟨i2,v2,t2,_⟩:=I.list hb;have e:(if l.length=m.length then eqL (eqF n) l m else some false)=some r:=e;split at e
   ·rename_i hlm;obtain⟨g,g1,g2⟩:=xG e;have hz:i1.toArray.size=i2.toArray.size:=by rw[List.size_toArray,List.size_toArray,<-v1.length,<-v2.length,r1.1,r2.1];exact hlm
    have hj:∀ j (h1:j<i1.toArray.size) (h2:j<i2.toArray.size),SeqAt.EqAt A.in1 s i1.toArray[j] i2.toArray[j] (g j):=λj h1 h2=>by
     obtain⟨x,hx,rx'⟩:=pQ v1 h1;obtain⟨y,hy,ry'⟩:=pQ v2 h2;obtain⟨p',hp,rp⟩:=r1.got hx;obtain⟨q',hq,rq⟩:=r2.got hy;exact(ih (A:=A.in1) (show A.units+1+n<cLine by lia) (g1 j p' q' hp hq) rp rq rx' ry').2.1
    have rc:=SeqAt.RcAt.lists (A:=A) (e:=g) t1.isList t2.isList hz hu0 hj;have e2:r=(List.range l.length).all g:=by rw[g2,<-hlm,Nat.min_self,beq_self_eq_true,Bool.and_true]
    have rn:=SeqAt.RcNeAt.lists (A:=A) (e:=g) t1.isList t2.isList hz hu0 hj;rw[List.size_toArray,<-v1.length,r1.1,<-e2] at rc rn;refine⟨rc,?_,rn⟩;by_cases hab:a=b
    ·subst hab;have epq:PV.lst l=PV.lst m:=Rep.inj I rx ry;cases epq;have er:=lV (zg n) e;subst er;exact SeqAt.EqAt.same _
    ·exact .of_refs hab rc
   ·rename_i hlm;cases e;have hz:(i1.toArray.size != i2.toArray.size)=true:=by rw[List.size_toArray,List.size_toArray,<-v1.length,<-v2.length,r1.1,r2.1];simpa using hlm
    have rc:=SeqAt.RcAt.lists_lengths (A:=A) t1.isList t2.isList hz hu0;have hab:a≠b:=λz=>by
     subst z;have epq:PV.lst l=PV.lst m:=Rep.inj I rx ry;cases epq;exact hlm rfl
    exact⟨rc,.of_refs hab rc,SeqAt.RcNeAt.lists_lengths (A:=A) t1.isList t2.isList hz hu0⟩
end
section
variable{X:Cx}{k:Nat}
theorem OpR.or{f:Value->Value->Sem Value}{r r':R2}(h:OpR X f r)(h':OpR X f r'):OpR X f (λx y H Q=>r x y H Q\/r' x y H Q):=by
 intro pins s σ H x y v u Q I rx ry q;rcases q with q|q
 ·exact h pins s σ H x y v u Q I rx ry q
 ·exact h' pins s σ H x y v u Q I rx ry q
def Tg(K:Frag):R2:=λx y H Q=>∃ p q r,Rep K H x p/\Rep K H y q/\eqF 32 p q=some r/\Q (.bl r) H
def Th(K:Frag):R2:=λx y H Q=>∃ p q r,Rep K H x p/\Rep K H y q/\eqF 32 p q=some r/\Q (.bl (!r)) H
theorem lW(hr:dN k X.A):OpR X (compareOp .Eq) (Tg X.K):=by
 intro pins s σ H x y v u Q I rx ry h;obtain⟨p,q,r,h1,h2,e,h3⟩:=h;exact(JB I 32 (BL hr) e h1 h2 rx ry).1 X.prog X.w X.xe _ ⟨.bl r,H,I,rfl,h3⟩
theorem Cd(hr:dN k X.A):OpR X (compareOp .NotEq) (Th X.K):=by
 intro pins s σ H x y v u Q I rx ry h;obtain⟨p,q,r,h1,h2,e,h3⟩:=h;exact(JB I 32 (BL hr) e h1 h2 rx ry).2.2 X.prog X.w X.xe _ ⟨.bl (!r),H,I,rfl,h3⟩
def inF(p:PV):List PV->Option Bool
 |[]=>some false
 |x::xs=>match eqF 31 x p,inF p xs with
  |some a,some b=>some (a||b)
  |_,_=>none
theorem Ep{p:PV}:∀ {l:List PV}{r:Bool},inF p l=some r->∃ e:Nat->Bool,(∀ (j:Nat) x,l[j]?=some x->eqF 31 x p=some (e j))/\r=(List.range l.length).any e
 |[],r,h=>⟨λ_=>true,λj x a=>by simp at a,by cases h;rfl⟩
 |x::xs,r,h=>by
  rw[inF] at h;split at h
  ·rename_i a b h1 h2;cases h;obtain⟨e,e1,e2⟩:=Ep h2;refine⟨λj=>match j with|0=>a|j+1=>e j,λj x' a'=>?_,?_⟩
   ·cases j with
    |zero=>simp at a';subst a';exact h1
    |succ j=>exact e1 j x' (by simpa using a')
   ·rw[e2,ZaN,List.range_succ_eq_map,ZbO,List.any_map];rfl
  ·cases h
def M9(K:Frag)(neg:Bool):R2:=λx y H Q=>∃ p l r,Rep K H x p/\(Rep K H y (.lst l)\/Rep K H y (.tup l))/\inF p l=some r/\Q (.bl (if neg=true then !r else r)) H
theorem pW{pins:List (Addr×Obj)}{σ:St}{H:Hp}{s:Shared}(I:Inv X pins σ H s)(hr:dN k X.A){x:V}{v:Value}{p:PV}{xs:List V}{its:List Value}{l:List PV}{r:Bool}(rx:RelV x v)(h1:Rep X.K H x p)(rv:Vals xs its)(hl:bG X.K H xs l)(e:inF p l=some r) :
  ∃ f:Value->Bool,(∀ y,y∈its.toArray->SeqAt.EqAt X.A.in1 s y v (f y))/\its.toArray.any f=r:=by
 obtain⟨g,g1,g2⟩:=Ep e;have key:∀ w'∈its,∃ j,∃ hj:j<its.length,its[j]=w':=λw' hw=>by
  obtain⟨j,hj,e⟩:=List.mem_iff_getElem.mp hw;exact⟨j,hj,e⟩
 have look:∀ (j:Nat) (hj:j<its.length),∃ z q,l[j]?=some q/\RelV z its[j]/\Rep X.K H z q/\eqF 31 q p=some (g j):=λj hj=>by
  obtain⟨z,hz,rz⟩:=pQ rv (j:=j) (by simpa using hj)
  obtain⟨q,hq,rq⟩:=hl.got hz;exact⟨z,q,hq,by simpa using rz,rq,g1 j q hq⟩
 classical
 let f:Value->Bool:=λw'=>if h:∃ j,∃ hj:j<its.length,its[j]=w' then g (Classical.choose h) else false
 have fe:∀ (j:Nat) (hj:j<its.length),f its[j]=g j:=λj hj=>by
  have hx:∃ i,∃ hi:i<its.length,its[i]=its[j]:=⟨j,hj,rfl⟩;show(if h:∃ i,∃ hi:i<its.length,its[i]=its[j] then g (Classical.choose h) else false)=g j
  rw[dif_pos hx];obtain⟨h1',h2'⟩:=Classical.choose_spec hx;generalize Classical.choose hx=i at h1' h2' ⊢
  obtain⟨z,q,_,rz,rq,eq1⟩:=look i h1';obtain⟨z',q',_,rz',rq',eq2⟩:=look j hj;rw[h2'] at rz;cases rz.inj rz';cases Rep.inj I rq rq';rw[eq1] at eq2;exact Zah eq2
 refine⟨f,λy hy=>?_,?_⟩
 ·obtain⟨j,hj,e1⟩:=key y (by simpa using hy)
  obtain⟨z,q,_,rz,rq,eq1⟩:=look j hj;rw[<-e1,fe j hj];exact(JB I 31 (A:=X.A.in1) (show X.A.units+1+31<cLine by have:=BL hr;lia) eq1 rq h1 rz rx).2.1
 ·have hlen:its.length=l.length:=by rw[<-rv.length,hl.1]
  rw[g2,show its.toArray.any f=its.any f by simp,Bool.eq_iff_iff,List.any_eq_true,List.any_eq_true]
  constructor
  ·rintro⟨w',hw,hf⟩;obtain⟨j,hj,e1⟩:=key w' hw;exact⟨j,ZaR.mpr (by lia),by rw[<-fe j hj,e1];exact hf⟩
  ·rintro⟨j,hj,hf⟩;have hj':j<its.length:=by rw[hlen];exact ZaR.mp hj
   exact⟨its[j],Zbq hj',by rw[fe j hj'];exact hf⟩
theorem Q4(hr:dN k X.A):OpR X (compareOp .In) (M9 X.K false):=by
 intro pins s σ H x y v u Q I rx ry h;obtain⟨p,l,r,h1,h2,e,q⟩:=h;rcases h2 with h2|h2
 ·obtain⟨a,xs,rfl,hq,rr⟩:=h2.cj;cases ry;obtain⟨its,rv,pl,_⟩:=I.list hq;obtain⟨f,f1,f2⟩:=pW I hr rx h1 rv rr e;exact SeqAt.in_listAt f pl.isList f1 (by rw[f2];exact⟨.bl _,H,I,rfl,q⟩)
 ·obtain⟨a,xs,rfl,hq,rr⟩:=h2.cg;cases ry;obtain⟨its,rv,pl,_⟩:=I.tuple hq;obtain⟨f,f1,f2⟩:=pW I hr rx h1 rv rr e;exact SeqAt.in_tupleAt f pl f1 (by rw[f2];exact⟨.bl _,H,I,rfl,q⟩)
theorem Hg(hr:dN k X.A):OpR X (compareOp .NotIn) (M9 X.K true):=by
 intro pins s σ H x y v u Q I rx ry h;obtain⟨p,l,r,h1,h2,e,q⟩:=h;rcases h2 with h2|h2
 ·obtain⟨a,xs,rfl,hq,rr⟩:=h2.cj;cases ry;obtain⟨its,rv,pl,_⟩:=I.list hq;obtain⟨f,f1,f2⟩:=pW I hr rx h1 rv rr e;exact SeqAt.notIn_listAt f pl.isList f1 (by rw[f2];exact⟨.bl _,H,I,rfl,q⟩)
 ·obtain⟨a,xs,rfl,hq,rr⟩:=h2.cg;cases ry;obtain⟨its,rv,pl,_⟩:=I.tuple hq;obtain⟨f,f1,f2⟩:=pW I hr rx h1 rv rr e;exact SeqAt.notIn_tupleAt f pl f1 (by rw[f2];exact⟨.bl _,H,I,rfl,q⟩)
def Ti(K:Frag):R2:=λx y H Q=>M9 K false x y H Q\/∃ i j,x=.str i/\y=.str j/\Q (.bl (!(Builtin.Str.occurrences j i 0 j.length 1).isEmpty)) H
def Er(K:Frag):R2:=λx y H Q=>M9 K true x y H Q\/∃ i j,x=.str i/\y=.str j/\Q (.bl (!(!(Builtin.Str.occurrences j i 0 j.length 1).isEmpty))) H
theorem JC(hr:dN k X.A):OpR X (compareOp .In) (Ti X.K):=OpR.or (Q4 hr) GF
theorem Hh(hr:dN k X.A):OpR X (compareOp .NotIn) (Er X.K):=OpR.or (Hg hr) wY
def JD(K:Frag):R2:=λx y H Q=>rI0 (λi j=>.int (i+j)) x y H Q\/(∃ i j,x=.str i/\y=.str j/\i.length+j.length<=sizeLine/\Q (.str (i++j)) H)\/Jd K x y H Q
theorem bB:OpR X (binaryOp .Add) (JD X.K):=OpR.or QH (OpR.or Bw Eh)
def Qi:R2:=λx y H Q=>rI Bu (λi j=>.int (i*j)) x y H Q\/∃ z n,x=.str z/\y=.int n/\-(2^63)<=n/\n<2^63/\z.length*n.toNat<=sizeLine/\Q (.str ⟨(List.replicate n.toNat z.cps).foldl (·++·) #[]⟩) H
theorem sW:OpR X (binaryOp .Mult) Qi:=by
 refine OpR.or QJ ?_;intro pins s σ H x y v u Q I rx ry h;obtain⟨z,n,rfl,rfl,h1,h2,h3,q⟩:=h;obtain⟨t,rfl⟩:=rx;obtain⟨t',rfl⟩:=ry;have fin:∀ t k,EP X pins σ Q (.str ⟨(List.replicate n.toNat z.cps).foldl (·++·) #[]⟩ t) { s with toks:=k }:=λt k=>⟨.str _,H,I.tok _,⟨t,rfl⟩,q⟩;have hr:(decide (n < -(2^63:Int))||decide (n>=2^63))=false:=by
  rw[ZaH (by omega),ZaH (by omega)];rfl
 refine PySem.P.mul_str hr (λh4 h5=>?_) (λh4 h5=>?_) ?_
 ·have hn:1<=n:=by omega
  have h6:z.length<=sizeLine:=by
   have:z.length*1<=z.length*n.toNat:=Nat.mul_le_mul_left _ (by omega)
   omega
  have h7:n≠1:=λe=>by subst e;simp at h5
  have h8:(z.length:Int)*n<=16777216:=by
   have e:(z.length:Int)*n=((z.length*n.toNat:Nat):Int):=by
    rw[Int.natCast_mul,ZbC (by omega)]
   rw[e];have:z.length*n.toNat<=16777216:=h3;omega
  have h9:(z.length:Int)<=(2^63-1)/n:=by
   apply(Int.le_ediv_iff_mul_le (by omega)).mpr
   omega
  omega
 ·unfold Builtin.Str.tooLong;exact ZaH (by omega)
 ·by_cases h4:n<1
  ·rw[Zal h4];have e:n.toNat=0:=by omega
   rw[e] at fin;exact⟨Zba _,fin _ _⟩
  ·rw[Zak h4];refine post_val_or_str ⟨?_,λt' k=>?_⟩
   ·have e1:∀ (m:Nat) (acc:Array Nat),((List.replicate m z.cps).foldl (·++·) acc).size=acc.size+m*z.cps.size:=λm=>by
     induction m with
     |zero=>intro acc;simp
     |succ m ih=>intro acc;rw[List.replicate_succ,List.foldl_cons,ih,Array.size_append,Nat.succ_mul];omega
    have h6:z.length<=sizeLine:=by
     have:z.length*1<=z.length*n.toNat:=Nat.mul_le_mul_left _ (by omega)
     omega
    split
    ·exact h6
    ·show((List.replicate n.toNat z.cps).foldl (·++·) #[]).size<=sizeLine
     rw[e1,Nat.mul_comm];show 0+z.length*n.toNat<=_
     omega
   ·have fz:=fin t' k;split
    ·rename_i h5;have e:(⟨(List.replicate n.toNat z.cps).foldl (·++·) #[]⟩:Str)=z:=by
      rcases Bool.or_eq_true _ _▸h5 with h|h
      ·have:n=1:=by simpa using h
       subst this;show(⟨#[]++z.cps⟩:Str)=z
       rw[Array.empty_append]
      ·have h1:z.length=0:=by simpa using h
       have h0:z.cps=#[]:=Array.eq_empty_of_size_eq_zero h1;have e2:∀ m:Nat,(List.replicate m (#[]:Array Nat)).foldl (·++·) #[]=#[]:=λm=>by
        induction m with
        |zero=>rfl
        |succ m ih=>rw[List.replicate_succ,List.foldl_cons];exact ih
       cases z with
       |mk c=>cases h0;rw[e2]
     rw[e] at fz;exact fz
    ·exact fz
def Tj:R2:=λx y H Q=>rI0 (λi j=>.bl (decide (i<j))) x y H Q\/∃ i j,x=.str i/\y=.str j/\Q (.bl (decide (i.cps.toList<j.cps.toList))) H
theorem Ce:OpR X (compareOp .Lt) Tj:=OpR.or Sx GD
theorem Hi(l b:Addr)(i1 i2:Array Value)(n1 n2:Nat)(s1 s2:Array (Option Value))(hz:i1.size+i2.size<=sizeLine) :
  Meets (Builtin.«list.__add__» ⟨[.ref l,.ref b],[]⟩) (λ_ R s=>s.heap.get? l=some ⟨.type "list",none,.seq i1 n1,s1⟩/\s.heap.get? b=some ⟨.type "list",none,.seq i2 n2,s2⟩ /\
   R (.ok (.ret (Value.ref s.heap.objs.size))) { s with heap:=s.heap.push { cls:=Value.type "list",data:=Data.seq (i1++i2) } }):=by
 refine .of_wp λprog w A R s h=>?_;obtain⟨hp,g,d,tk,os⟩:=s;obtain⟨h1,h2,h⟩:=h;have f1:=AutoSeq1.idx_int;have f2:=AutoSeq1.sub_tuple_tuple;have f3:=AutoSeq1.sub_list_list;have f4:=AutoSeq1.sub_tuple_list;have f5:=AutoSeq1.sub_list_tuple
 wp_walk using AutoSeq1.wpAny_loadPart' h1,AutoSeq1.wpAny_loadPart' h2
 exact⟨_,rfl,h⟩
theorem Nb:OpR X (binaryOp .Add) (λx y H Q=>∃ l b xs zs,x=.ref l/\y=.ref b/\SqL X.K H l xs/\SqL X.K H b zs/\xs.length+zs.length<=sizeLine/\∀ p,H p=none->Q (.ref p) (upd H p (.lst (xs++zs)))):=by
 intro pins s σ H x y v u Q I rx ry h;obtain⟨l,b,xs,zs,rfl,rfl,hH,hB,hz,q⟩:=h;cases rx;cases ry;obtain⟨its,r,⟨⟨cl1,dd1,da1,sl1⟩,n1,g1,c1,d1,e1⟩,z1⟩:=I.list hH;obtain⟨its2,r2,⟨⟨cl2,dd2,da2,sl2⟩,n2,g2,c2,d2,e2⟩,z2⟩:=I.list hB;simp only at c1 d1 e1 c2 d2 e2;subst c1 d1 e1 c2 d2 e2;have hs:its.toArray.size+its2.toArray.size<=sizeLine:=by rw[List.size_toArray,List.size_toArray,<-r.length,<-r2.length];exact hz
 refine concat_meets ⟨_,g1,rfl⟩ ⟨_,g2,rfl⟩ noFill_list_add seq_list_add F.slot_list_add F.entry_list_add (F.args_list_add_2 _ _) (Hi l b its.toArray its2.toArray n1 n2 sl1 sl2 hs) ⟨g1,g2,?_⟩;have ea:its.toArray++its2.toArray=(its++its2).toArray:=by simp
 rw[ea];exact⟨.ref _,_,I.Uq (t':=s.toks) (r.append r2) (by rw[List.length_append];lia),rfl,q _ I.fresh⟩
end
theorem noS{α:Type}{r:α}{C:Prop}(e:(none:Option α)=some r):C:=by cases e
def opI(c:Int->Int->Bool)(f:Int->Int->PV):PV->PV->Option (Res PV)
 |.int i,.int j=>if c i j=true then some (.ok (f i j)) else none
 |_,_=>none
def cT:Int->Int->Bool:=λ_ _=>true
def JF:Int->Int->Bool:=λi j=>decide ((-(2^64)<i/\i<2^64)\/(-(2^64)<j/\j<2^64))
def Q5:Int->Int->Bool:=λ_ j=>decide (0<j/\j<1073741824)
def Tn:Int->Int->Bool:=λ_ j=>decide (0<j)
def JG:Int->Int->Bool:=λi j=>decide (0<=j/\j<=1000000/\i.natAbs<2^64)
def fM:=opI Q5 λi j=>.int (i/j)
def dD:=opI Tn λi j=>.int (i%j)
def pX:=opI JG λi j=>.int (i^j.toNat)
def zm:=opI JG λi j=>.int (i*2^j.toNat)
def JH:=opI cT λi j=>.int (Builtin.bitOr i j)
def Nf:=opI cT λi j=>.bl (decide (j<=i))
def cA:PV->PV->Option (Res PV)
 |.int i,.int j=>some (.ok (.int (i+j)))
 |.str i,.str j=>if i.length+j.length<=sizeLine then some (.ok (.str (i++j))) else none
 |.tup l,.tup m=>if l≠[]/\l.length+m.length<=sizeLine then some (.ok (.tup (l++m))) else none
 |_,_=>none
def Q6(z:Str)(n:Nat):Str:=⟨(List.replicate n z.cps).foldl (·++·) #[]⟩
def rP:PV->PV->Option (Res PV)
 |.int i,.int j=>if JF i j=true then some (.ok (.int (i*j))) else none
 |.str z,.int n=>if -(2^63)<=n/\n<2^63/\z.length*n.toNat<=sizeLine then some (.ok (.str (Q6 z n.toNat))) else none
 |_,_=>none
def Hj:PV->PV->Option (Res PV)
 |.int i,.int j=>some (.ok (.bl (decide (i<j))))
 |.str i,.str j=>some (.ok (.bl (decide (i.cps.toList<j.cps.toList))))
 |_,_=>none
def oU(p q:PV):Option (Res PV):=match eqF 32 p q with
 |some r=>some (.ok (.bl r))
 |none=>none
def vA(p q:PV):Option (Res PV):=match eqF 32 p q with
 |some r=>some (.ok (.bl (!r)))
 |none=>none
def inU(p:PV):PV->Option Bool
 |.lst l=>inF p l
 |.tup l=>inF p l
 |.str j=>match p with
  |.str i=>some (!(Builtin.Str.occurrences j i 0 j.length 1).isEmpty)
  |_=>none
 |_=>none
def Ci(p q:PV):Option (Res PV):=match inU p q with
 |some r=>some (.ok (.bl r))
 |none=>none
def nG(p q:PV):Option (Res PV):=match inU p q with
 |some r=>some (.ok (.bl (!r)))
 |none=>none
def ofO(x:Option PV):Option (Res PV):=match x with
 |some p=>some (.ok p)
 |none=>none
def fQ:PV->PV->Option (Res PV)
 |.lst l,.int i=>ofO (atI l i)
 |.tup l,.int i=>ofO (atI l i)
 |.str z,.int i=>if z.length<=sizeLine then ofO ((atI z.cps.toList i).map λc=>.str ⟨#[c]⟩) else none
 |_,_=>none
section
variable{K:Frag}{C:Cg}{F H:Hp}
theorem Tp{i j:Int}(h:Q5 i j=true):QG i j:=Zbc (p:=0<j/\j<1073741824) h
theorem Qj{i j:Int}(h:JG i j=true):IW i j:=Zbc (p:=0<=j/\j<=1000000/\i.natAbs<2^64) h
theorem Tq{i j:Int}(h:JF i j=true):Bu i j:=Zbc (p:=(-(2^64)<i/\i<2^64)\/(-(2^64)<j/\j<2^64)) h
theorem zp{c:Int->Int->Bool}{f:Int->Int->PV}{cond:Int->Int->Prop}{fv:Int->Int->V}(hc:∀ i j,c i j=true->cond i j)(hf:∀ i j F,Rep K F (fv i j) (f i j)):R2M C (aF K) (aF K) (aF K) (rI cond fv) (opI c f):=by
 intro F H x y a b res Q s ha hb e P;have inv:(∃ i j,a=.int i/\b=.int j):=by
  clear P ha hb
  cases a<;>first|exact noS e|(cases b<;>first|exact noS e|exact⟨_,_,rfl,rfl⟩)
 obtain⟨i,j,rfl,rfl⟩:=inv;cases Rep.bf ha;cases Rep.bf hb;have e:(if c i j=true then some (Res.ok (f i j)) else none)=some res:=e;split at e
 ·rename_i h;cases e;exact⟨i,j,rfl,rfl,hc i j h,P _ F H (Up.refl s) (hf i j F)⟩
 ·cases e
theorem JK{f:Int->Int->PV}{fv:Int->Int->V}(hf:∀ i j F,Rep K F (fv i j) (f i j)):R2M C (aF K) (aF K) (aF K) (rI0 fv) (opI cT f):=by
 intro F H x y a b res Q s ha hb e P;have inv:(∃ i j,a=.int i/\b=.int j):=by
  clear P ha hb
  cases a<;>first|exact noS e|(cases b<;>first|exact noS e|exact⟨_,_,rfl,rfl⟩)
 obtain⟨i,j,rfl,rfl⟩:=inv;cases Rep.bf ha;cases Rep.bf hb;cases e;exact⟨i,j,rfl,rfl,P _ F H (Up.refl s) (hf i j F)⟩
theorem ir:R2M C (aF K) (aF K) (aF K) (rI QG λi j=>.int (i/j)) fM:=zp (λ_ _ h=>Tp h) λ_ _ _=>.int
theorem eY:R2M C (aF K) (aF K) (aF K) (rI (λ_ j=>0<j) λi j=>.int (i%j)) dD:=zp (λ_ _ h=>Zbc h) λ_ _ _=>.int
theorem vZ:R2M C (aF K) (aF K) (aF K) (rI IW λi j=>.int (i^j.toNat)) pX:=zp (λ_ _ h=>Qj h) λ_ _ _=>.int
theorem Qk:R2M C (aF K) (aF K) (aF K) (rI IW λi j=>.int (i*2^j.toNat)) zm:=zp (λ_ _ h=>Qj h) λ_ _ _=>.int
theorem Tr:R2M C (aF K) (aF K) (aF K) (rI0 λi j=>.int (Builtin.bitOr i j)) JH:=JK λ_ _ _=>.int
theorem Uu:R2M C (aF K) (aF K) (aF K) (rI0 λi j=>.bl (decide (j<=i))) Nf:=JK λ_ _ _=>.bl
theorem cW:R2M C (aF K) (aF K) (aF K) (JD K) cA:=by
 intro F H x y a b res Q s ha hb e P;have inv:(∃ i j,a=.int i/\b=.int j)\/(∃ i j,a=.str i/\b=.str j)\/(∃ l m,a=.tup l/\b=.tup m):=by
  clear P ha hb
  cases a<;>first|exact noS e|(cases b<;>first|exact noS e|exact .inl ⟨_,_,rfl,rfl⟩|exact .inr (.inl ⟨_,_,rfl,rfl⟩)|exact .inr (.inr ⟨_,_,rfl,rfl⟩))
 rcases inv with⟨i,j,rfl,rfl⟩|⟨i,j,rfl,rfl⟩|⟨l,m,rfl,rfl⟩
 ·cases Rep.bf ha;cases Rep.bf hb;cases e;exact .inl ⟨i,j,rfl,rfl,P _ F H (Up.refl s) .int⟩
 ·cases Rep.bJ ha;cases Rep.bJ hb;have e:(if i.length+j.length<=sizeLine then some (Res.ok (PV.str (i++j))) else none)=some res:=e;split at e
  ·rename_i h;cases e;exact .inr (.inl ⟨i,j,rfl,rfl,h,P _ F H (Up.refl s) .str⟩)
  ·cases e
 ·have e:(if l≠[]/\l.length+m.length<=sizeLine then some (Res.ok (PV.tup (l++m))) else none)=some res:=e;split at e
  ·rename_i h;cases e;obtain⟨a1,xs,rfl,h1,r1⟩:=Rep.cg ha;obtain⟨a2,ys,rfl,h2,r2⟩:=Rep.cg hb;have hx:xs≠[]:=λz=>h.1 (by have:=r1.1;rw[z] at this;simpa using this.symm)
   refine .inr (.inr ⟨a1,a2,xs,ys,rfl,rfl,s.tup h1,s.tup h2,hx,by rw[r1.1,r2.1];exact h.2,λz=>?_,λ_ p hp=>?_⟩)
   ·subst z;have hm:m=[]:=by have:=r2.1;simpa using this.symm
    subst hm;rw[ZaS] at P;exact P _ F H (Up.refl s) ha
   ·have un:=Up.new (o:=.tup (xs++ys)) s hp;exact P _ _ _ un (.tup aA (r1.append r2).1 ((r1.append r2).up un.ff).2)
  ·cases e
theorem Es:R2M C (aF K) (aF K) (aF K) Qi rP:=by
 intro F H x y a b res Q s ha hb e P;have inv:(∃ i j,a=.int i/\b=.int j)\/(∃ z n,a=.str z/\b=.int n):=by
  clear P ha hb
  cases a<;>first|exact noS e|(cases b<;>first|exact noS e|exact .inl ⟨_,_,rfl,rfl⟩|exact .inr ⟨_,_,rfl,rfl⟩)
 rcases inv with⟨i,j,rfl,rfl⟩|⟨z,n,rfl,rfl⟩
 ·cases Rep.bf ha;cases Rep.bf hb;have e:(if JF i j=true then some (Res.ok (PV.int (i*j))) else none)=some res:=e;split at e
  ·rename_i h;cases e;exact .inl ⟨i,j,rfl,rfl,Tq h,P _ F H (Up.refl s) .int⟩
  ·cases e
 ·cases Rep.bJ ha;cases Rep.bf hb;have e:(if -(2^63)<=n/\n<2^63/\z.length*n.toNat<=sizeLine then some (Res.ok (PV.str (Q6 z n.toNat))) else none)=some res:=e;split at e
  ·rename_i h;cases e;exact .inr ⟨z,n,rfl,rfl,h.1,h.2.1,h.2.2,P _ F H (Up.refl s) .str⟩
  ·cases e
theorem Q7:R2M C (aF K) (aF K) (aF K) Tj Hj:=by
 intro F H x y a b res Q s ha hb e P;have inv:(∃ i j,a=.int i/\b=.int j)\/(∃ i j,a=.str i/\b=.str j):=by
  clear P ha hb
  cases a<;>first|exact noS e|(cases b<;>first|exact noS e|exact .inl ⟨_,_,rfl,rfl⟩|exact .inr ⟨_,_,rfl,rfl⟩)
 rcases inv with⟨i,j,rfl,rfl⟩|⟨i,j,rfl,rfl⟩
 ·cases Rep.bf ha;cases Rep.bf hb;cases e;exact .inl ⟨i,j,rfl,rfl,P _ F H (Up.refl s) .bl⟩
 ·cases Rep.bJ ha;cases Rep.bJ hb;cases e;exact .inr ⟨i,j,rfl,rfl,P _ F H (Up.refl s) .bl⟩
theorem zq:R2M C (aH K) (aH K) (aF K) (Tg K) oU:=by
 intro F H x y a b res Q s ha hb e P;unfold oU at e;split at e
 ·rename_i r h;cases e;exact⟨a,b,r,ha,hb,h,P _ F H (Up.refl s) .bl⟩
 ·cases e
theorem Q8:R2M C (aH K) (aH K) (aF K) (Th K) vA:=by
 intro F H x y a b res Q s ha hb e P;unfold vA at e;split at e
 ·rename_i r h;cases e;exact⟨a,b,r,ha,hb,h,P _ F H (Up.refl s) .bl⟩
 ·cases e
theorem Tt:R2M C (aH K) (aH K) (aF K) (Ti K) Ci:=by
 intro F H x y a b res Q s ha hb e P;unfold Ci at e;split at e
 ·rename_i r h;cases e
  match b,h with
  |.lst l,h=>exact .inl ⟨a,l,r,ha,.inl hb,h,P _ F H (Up.refl s) .bl⟩
  |.tup l,h=>exact .inl ⟨a,l,r,ha,.inr hb,h,P _ F H (Up.refl s) .bl⟩
  |.str j,h=>
   match a,h with
   |.str i,h=>
    cases h;exact .inr ⟨i,j,Rep.bJ ha,Rep.bJ hb,P _ F H (Up.refl s) .bl⟩
 ·cases e
theorem Ng:R2M C (aH K) (aH K) (aF K) (Er K) nG:=by
 intro F H x y a b res Q s ha hb e P;unfold nG at e;split at e
 ·rename_i r h;cases e
  match b,h with
  |.lst l,h=>exact .inl ⟨a,l,r,ha,.inl hb,h,P _ F H (Up.refl s) .bl⟩
  |.tup l,h=>exact .inl ⟨a,l,r,ha,.inr hb,h,P _ F H (Up.refl s) .bl⟩
  |.str j,h=>
   match a,h with
   |.str i,h=>
    cases h;exact .inr ⟨i,j,Rep.bJ ha,Rep.bJ hb,P _ F H (Up.refl s) .bl⟩
 ·cases e
theorem Et{xs:List V}{l:List PV}{i:Int}{p:PV}(r:bG K F xs l)(h:atI l i=some p):∃ v,atI xs i=some v/\Rep K F v p:=by
 unfold atI at h ⊢;rw[r.1];cases e:ixN l.length i with
 |none=>rw[e] at h;cases h
 |some j=>
  rw[e] at h;exact r.get h
theorem sX{x:Option PV}{res:Res PV}(h:ofO x=some res):∃ p,x=some p/\res=.ok p:=by
 cases x with
 |none=>cases h
 |some p=>cases h;exact⟨p,rfl,rfl⟩
theorem iG:R2M C (aF K) (aF K) (aF K) (rIx K) fQ:=by
 intro F H x y a b res Q s ha hb e P;have inv:(∃ l i,a=.lst l/\b=.int i)\/(∃ l i,a=.tup l/\b=.int i)\/(∃ z i,a=.str z/\b=.int i):=by
  clear P ha hb
  cases a<;>first|exact noS e|(cases b<;>first|exact noS e|exact .inl ⟨_,_,rfl,rfl⟩|exact .inr (.inl ⟨_,_,rfl,rfl⟩)|exact .inr (.inr ⟨_,_,rfl,rfl⟩))
 rcases inv with⟨l,i,rfl,rfl⟩|⟨l,i,rfl,rfl⟩|⟨z,i,rfl,rfl⟩
 ·cases Rep.bf hb;obtain⟨p,e1,rfl⟩:=sX e;obtain⟨a1,xs,rfl,h1,r1⟩:=Rep.cj ha;obtain⟨v,e2,rv⟩:=Et r1 e1;exact .inl ⟨a1,xs,i,v,rfl,rfl,s.seq h1,e2,P _ F H (Up.refl s) rv⟩
 ·cases Rep.bf hb;obtain⟨p,e1,rfl⟩:=sX e;obtain⟨a1,xs,rfl,h1,r1⟩:=Rep.cg ha;obtain⟨v,e2,rv⟩:=Et r1 e1;exact .inr (.inl ⟨a1,xs,i,v,rfl,rfl,s.tup h1,e2,P _ F H (Up.refl s) rv⟩)
 ·cases Rep.bf hb;cases Rep.bJ ha;have e:(if z.length<=sizeLine then ofO ((atI z.cps.toList i).map λc=>PV.str ⟨#[c]⟩) else none)=some res:=e;split at e
  ·rename_i hz;obtain⟨p,e1,rfl⟩:=sX e;cases e2:atI z.cps.toList i with
   |none=>rw[e2] at e1;cases e1
   |some c=>
    rw[e2] at e1;cases e1;exact .inr (.inr ⟨z,i,c,rfl,rfl,hz,e2,P _ F H (Up.refl s) .str⟩)
  ·cases e
def Eu(l m:List PV):Option (Res PV):=if l.length+m.length<=sizeLine then some (.ok (.lst (l++m))) else none
def Tu(K:Frag):R2:=λx y H Q=>∃ l b xs zs,x=.ref l/\y=.ref b/\SqL K H l xs/\SqL K H b zs/\xs.length+zs.length<=sizeLine/\∀ p,H p=none->Q (.ref p) (upd H p (.lst (xs++zs)))
theorem Tw:R2O K C (aV K) (aV K) (Tu K) Eu:=by
 intro F H x y a b res Q s ha hb e P;unfold Eu at e;split at e
 ·rename_i h;cases e;obtain⟨a1,xs,rfl,h1,r1⟩:=ha;obtain⟨a2,ys,rfl,h2,r2⟩:=hb;refine⟨a1,a2,xs,ys,rfl,rfl,h1,h2,by rw[r1.1,r2.1];exact h,λp hp=>?_⟩
  exact P p F _ (Up.vq s hp) hp (s.free hp) ⟨_,aA,r1.append r2⟩
 ·cases e
variable{te:TE}
def MP'(K:Frag)(C:Cg)(t:TO)(f:Fn (Option Int)):Prop:=
 ∀ F H σ ρ Q r,RE K C.toCf F H σ ρ->f ρ=some r->Pr C F (λo=>∀ F' H',Up F H F' H'->Q o H') r->t σ H Q
def mPn:Fn (Option Int):=λ_=>some (.ok none)
def asInt:PV->Option (Res (Option Int))
 |.int i=>some (.ok (some i))
 |_=>none
theorem Ew:MP' K C Ed mPn:=λF H σ ρ Q r R e P=>by
 cases e;exact P F H (Up.refl R.rb.sub)
theorem Ex{f:Fn PV}(h:MJ K C (aF K) te f):MP' K C (Qc te) (m1 asInt f):=by
 intro F H σ ρ Q r R e P;refine h.run R e P λp v F1 H1 hk u a=>?_
 match p,hk with
 |.int i,hk=>
  cases Rep.bf a;cases hk;exact⟨i,rfl,P F1 H1 u⟩
theorem MP'.run{β:Type}{t:TO}{f:Fn (Option Int)}{σ:St}{ρ:Rho}{Q:Option Int->Hp->Prop}{ok:β->Prop}{k:Option Int->Option (Res β)}{r:Res β}(h:MP' K C t f)(R:RE K C.toCf F H σ ρ)(hb:bnd (f ρ) k=some r)(P:Pr C F ok r)
  (go:∀ o F1 H1,k o=some r->Up F H F1 H1->Q o H1):t σ H Q:=by
 rcases dU hb with⟨z,e,rfl⟩|⟨p,e,hk⟩
 ·exact h F H σ ρ Q _ R e P
 ·exact h F H σ ρ Q _ R e λF1 H1 u=>go p F1 H1 hk u
def JL(a b:Option Int):PV->Option (Res PV)
 |.str z=>if z.length<=sizeLine then some (.ok (.str (Txt.slice z a b))) else none
 |_=>none
def JM(f:Fn PV)(lo hi:Fn (Option Int)):Fn PV:=λρ=>bnd (f ρ) λz=>bnd (lo ρ) λa=>bnd (hi ρ) λb=>JL a b z
theorem JN{f:Fn PV}{lo hi:Fn (Option Int)}{tl th:TO}(h:MJ K C (aF K) te f)(hl:MP' K C tl lo)(hh:MP' K C th hi):MJ K C (aF K) (tSl Td te tl th) (JM f lo hi):=by
 intro F H σ ρ Q r R e P;refine h.run R e P λl v F1 H1 hk u a=>?_;refine hl.run (R.up u) hk (P.later u) λo F2 H2 hk2 u2=>?_;refine hh.run (R.up (u.trans u2)) hk2 (P.later (u.trans u2)) λo2 F3 H3 hk3 u3=>?_
 match l,hk3 with
 |.str z,hk3=>
  cases Rep.bJ a;have hk3:(if z.length<=sizeLine then some (Res.ok (PV.str (Txt.slice z o o2))) else none)=some r:=hk3;split at hk3
  ·rename_i hz;cases hk3;exact⟨z,rfl,hz,P _ F3 H3 (u.trans (u2.trans u3)) .str⟩
  ·cases hk3
end
def JP(K:Frag)(tl:TE):TI:=λσ H R=>tl σ H λx H1=>(∃ a,x=.ref a/\(∃ xs,SqL K H1 a xs)/\R (Itl K a) H1)\/(∃ a,x=.ref a/\(∃ xs,SqT K H1 a xs)/\R (Itt K a) H1)\/∃ z,x=.str z/\R (Itf (sgn z) z.cps.size) H1
theorem gC{X:Cx}{tg l:Expr}{tl:TE}(hl:PE X l tl):PI X tg l (JP X.K tl):=by
 intro pins s σ H R I h;refine thn (hl pins s σ H _ I h) ?_;rintro v s1 ⟨x,H1,I1,r1,q1⟩;have keep:∀ (o:Obj),Inv X pins σ H1 { s1 with heap:=s1.heap.push o }:=λo=>I1.kept (t':=s1.toks) λb ob e=>Zac _ e;have fp:∀ b∈[s1.heap.objs.size],oK X pins H1 b:=λb hb=>by
  have e:b=s1.heap.objs.size:=by simpa using hb
  subst e;exact I1.tZ (Zaf _) (I1.hok.fresh (Zaf _))
 rcases q1 with⟨a,rfl,⟨xs,hq⟩,q⟩|⟨a,rfl,⟨xs,hq⟩,q⟩|⟨z,rfl,q⟩
 ·cases r1;obtain⟨its,rv,p,hz⟩:=I1.list hq;exact wpAny_pyIter_list p.isList ⟨_,[_],_,_,H1,rfl,keep _,Gz a _,⟨_,Zam _ rfl,rfl,rfl⟩,fp,q⟩
 ·cases r1;obtain⟨its,rv,p,hz⟩:=I1.tuple hq;exact wpAny_pyIter_tuple (show s1.heap.IsTuple a its.toArray from p) ⟨_,[_],_,_,H1,rfl,keep _,Br a _,⟨_,Zam _ rfl,rfl,rfl⟩,fp,q⟩
 ·obtain⟨t,rfl⟩:=r1;exact wpAny_pyIter_strU ⟨_,[_],_,_,H1,rfl,keep _,Jg _ z t,⟨_,Zam _ rfl,rfl,rfl⟩,fp,q⟩
section
variable{K:Frag}{C:Cg}{F H:Hp}{σ:St}{ρ:Rho}{te:TE}{tA:TA}{a:Addr}{xs:List V}{l:List PV}
def signs(z:Str):List PV:=z.cps.toList.map λc=>.str ⟨#[c]⟩
def jm:PV->Option (Res (List PV))
 |.lst l=>some (.ok l)
 |.tup l=>some (.ok l)
 |.str z=>some (.ok (signs z))
 |_=>none
theorem JQ(h:SqL K F a xs)(r:bG K F xs l):ItR K (Itl K a) F l where
 stop:=λF' H' s s'=>⟨xs,(s.trans s').seq h,by rw[r.1];exact Zaf _⟩
 go:=λi F' H' hi s s'=>⟨xs,xs[i]'(by rw[r.1];exact hi),(s.trans s').seq h,by simp⟩
 yld:=λi F' H' x H'' hi s s' y=>by
  obtain⟨rfl,y⟩:=y;have e:=y xs ((s.trans s').seq h);obtain⟨p,e2,rp⟩:=r.got e;exact⟨F',p,Up.refl s',e2,rp.up s⟩
theorem Nh(h:SqT K F a xs)(r:bG K F xs l):ItR K (Itt K a) F l where
 stop:=λF' H' s s'=>⟨xs,(s.trans s').tup h,by rw[r.1];exact Zaf _⟩
 go:=λi F' H' hi s s'=>⟨xs,xs[i]'(by rw[r.1];exact hi),(s.trans s').tup h,by simp⟩
 yld:=λi F' H' x H'' hi s s' y=>by
  obtain⟨rfl,y⟩:=y;have e:=y xs ((s.trans s').tup h);obtain⟨p,e2,rp⟩:=r.got e;exact⟨F',p,Up.refl s',e2,rp.up s⟩
theorem Ni(z:Str):ItR K (Itf (sgn z) z.cps.size) F (signs z) where
 stop:=λF' H' s s'=>by simp[signs,Itf]
 go:=λi F' H' hi s s'=>by simpa[signs,Itf] using hi
 yld:=λi F' H' x H'' hi s s' y=>by
  obtain⟨rfl,rfl⟩:=y;have hi':i<z.cps.size:=by simpa[signs] using hi
  refine⟨F',.str ⟨#[z.cps.getD i 0]⟩,Up.refl s',?_,.str⟩;unfold signs;rw[Zae,ZaK,ZaO,Zar hi'];rfl
theorem iH{f:Fn PV}(h:MJ K C (aF K) te f):MI K C (JP K te) (m1 jm f):=by
 intro F H σ ρ R' r R e P;refine h.run R e P λp v F1 H1 hk u a=>?_
 match p,hk with
 |.lst l,hk=>
  cases hk;obtain⟨b,xs,rfl,h1,r1⟩:=Rep.cj a;exact .inl ⟨b,rfl,⟨xs,u.fh.seq h1⟩,P _ F1 H1 u (JQ h1 r1)⟩
 |.tup l,hk=>
  cases hk;obtain⟨b,xs,rfl,h1,r1⟩:=Rep.cg a;exact .inr (.inl ⟨b,rfl,⟨xs,u.fh.tup h1⟩,P _ F1 H1 u (Nh h1 r1)⟩)
 |.str z,hk=>
  cases hk;cases Rep.bJ a;exact .inr (.inr ⟨z,rfl,P _ F1 H1 u (Ni z)⟩)
def oV(lo:Int)(n:Nat):List PV:=(List.range n).map λ(i:Nat)=>.int (lo+(i:Int))
theorem bQ(lo:Int)(n:Nat):(oV lo n).length=n:=by simp[oV]
theorem Nj(lo:Int)(n:Nat):ItR K (Itr lo n) F (oV lo n) where
 stop:=λF' H' s s'=>by rw[bQ];exact Zaf _
 go:=λi F' H' hi s s'=>by rw[bQ] at hi;exact hi
 yld:=λi F' H' x H'' hi s s' y=>by
  obtain⟨rfl,rfl⟩:=y;rw[bQ] at hi;refine⟨F',.int (lo+i),Up.refl s',?_,.int⟩;unfold oV;rw[Zae,ZaI hi];rfl
def gV:List PV->Option (Res (List PV))
 |[.int j]=>if -(2^62)<=j/\j<2^62 then some (.ok (oV 0 j.toNat)) else none
 |_=>none
theorem gD{f:Fn (List PV)}(h:MA K C tA f):MI K C (PP tA) (m1 gV f):=by
 intro F H σ ρ R' r R e P;refine h.run R e P λl xs F1 H1 hk u a=>?_;have inv:∃ j,l=[.int j]:=by
  clear P u a
  rcases l with _|⟨x,_|⟨y,l⟩⟩<;>first|exact noS hk|(cases x<;>first|exact noS hk|exact⟨_,rfl⟩)
 obtain⟨j,rfl⟩:=inv;have hk:(if -(2^62)<=j/\j<2^62 then some (Res.ok (oV 0 j.toNat)) else none)=some r:=hk;split at hk
 ·rename_i hj;cases hk;obtain⟨v,ys,rfl,r1,r2⟩:=a.dB;cases r2.iC;cases Rep.bf r1;exact⟨j,rfl,hj.1,hj.2,P _ F1 H1 u (Nj 0 j.toNat)⟩
 ·cases hk
def pY(l:List PV):List PV:=l.mapIdx λ(i:Nat) x=>.tup [.int i,x]
def xJ:List PV->Option (Res (List PV))
 |[.lst l]=>some (.ok (pY l))
 |_=>none
theorem Ey{f:Fn (List PV)}(h:MA K C tA f):MI K C (Qe K tA) (m1 xJ f):=by
 intro F H σ ρ R' r R e P;refine h.run R e P λl xs F1 H1 hk u a=>?_;have inv:∃ m,l=[.lst m]:=by
  clear P u a
  rcases l with _|⟨x,_|⟨y,l⟩⟩<;>first|exact noS hk|(cases x<;>first|exact noS hk|exact⟨_,rfl⟩)
 obtain⟨l,rfl⟩:=inv;cases hk;obtain⟨v,ys,rfl,r1,r2⟩:=a.dB;cases r2.iC;obtain⟨b,xs,rfl,h1,r1⟩:=Rep.cj r1;have hl:(pY l).length=l.length:=by simp[pY]
 refine⟨b,rfl,⟨xs,u.fh.seq h1⟩,P _ F1 H1 u ⟨λF' H' s s'=>?_,λi F' H' hi s s'=>?_,λi F' H' x H'' hi s s' y=>?_⟩⟩
 ·exact⟨xs,(s.trans s').seq h1,by rw[hl,r1.1];exact Zaf _⟩
 ·rw[hl] at hi;exact⟨xs,xs[i]'(by rw[r1.1];exact hi),(s.trans s').seq h1,by simp⟩
 ·obtain⟨p,y,hp,rfl,rfl,hy⟩:=y;have e:=hy xs ((s.trans s').seq h1);obtain⟨q,e2,rq⟩:=r1.got e;have un:=Up.new (o:=.tup [.int i,y]) s' hp;refine⟨_,.tup [.int i,q],un,?_,.tup aA rfl λj x p hx hp'=>?_⟩
  ·unfold pY;rw[List.getElem?_mapIdx,e2];rfl
  ·match j with
   |0=>simp at hx hp';subst hx hp';exact .int
   |1=>simp at hx hp';subst hx hp';exact rq.up (s.trans un.ff)
   |j+2=>simp at hx
def NoO(ρ:Rho):Prop:=∀ (j:Nat) q,ρ[j]?≠some (some (.ow q))/\ρ[j]?≠some (some (.dp q))
def Wr(T:List Nat)(tg:PV->Rho->Option Rho):Prop:=∀ x ρ ρ',tg x ρ=some ρ'->ρ'.length=ρ.length/\(∀ j,j ∉ T->ρ'[j]?=ρ[j]?)/\(NoO ρ->NoO ρ')
def WrS(T:List Nat)(tg:List PV->Rho->Option Rho):Prop:=∀ x ρ ρ',tg x ρ=some ρ'->ρ'.length=ρ.length/\(∀ j,j ∉ T->ρ'[j]?=ρ[j]?)/\(NoO ρ->NoO ρ')
theorem iI(i:Nat):Wr [i] (gN i):=λx ρ ρ' e=>by
 cases e;refine⟨by simp,λj hj=>?_,λh j q=>⟨λe=>?_,λe=>?_⟩⟩
 ·rw[Zav (by simpa using Zbs (by simpa using hj))]
 ·rcases get_set e with⟨_,e2⟩|⟨_,e2⟩
  ·cases e2
  ·exact(h j q).1 e2
 ·rcases get_set e with⟨_,e2⟩|⟨_,e2⟩
  ·cases e2
  ·exact(h j q).2 e2
theorem Nk:WrS [] gsNil:=λx ρ ρ' e=>by
 cases x with
 |nil=>cases e;exact⟨rfl,λ_ _=>rfl,λh=>h⟩
 |cons p l=>cases e
theorem zr{T U:List Nat}{t:PV->Rho->Option Rho}{u:List PV->Rho->Option Rho}(h:Wr T t)(hs:WrS U u):WrS (T++U) (gsCons t u):=λx ρ ρ' e=>by
 cases x with
 |nil=>cases e
 |cons p l=>
  have e:(match t p ρ with
   |some ρ'=>u l ρ'
   |none=>none)=some ρ':=e
  split at e
  ·rename_i ρ1 h1;obtain⟨a1,a2,a3⟩:=h p ρ ρ1 h1;obtain⟨b1,b2,b3⟩:=hs l ρ1 ρ' e;exact⟨b1.trans a1,λj hj=>(b2 j λz=>hj (ZaA _ z)).trans (a2 j λz=>hj (List.mem_append_left _ z)),λz=>b3 (a3 z)⟩
  ·cases e
theorem Q9{n:Nat}{U:List Nat}{u:List PV->Rho->Option Rho}(hs:WrS U u):Wr U (gT n u):=λx ρ ρ' e=>by
 unfold gT at e;split at e
 ·split at e
  ·exact hs _ ρ ρ' e
  ·cases e
 ·cases e
def shOnly:Option Sl->Option Sl
 |some (.sh p)=>some (.sh p)
 |_=>none
def frR(fr:List (Option Nat))(ρ:Rho):Rho:=fr.map λo=>match o with
 |some i=>match ρ[i]? with
  |some v=>shOnly v
  |none=>none
 |none=>none
def eZ(tg:PV->Rho->Option Rho)(tst:Fn Bool)(el:Fn PV)(ρb:Rho):List PV->Option (Res (List PV))
 |[]=>some (.ok [])
 |x::xs=>match tg x ρb with
  |none=>none
  |some ρ1=>bnd (tst ρ1) λb=>if b=true then bnd (el ρ1) λp=>bnd (eZ tg tst el ρb xs) λr=>some (.ok (p::r)) else eZ tg tst el ρb xs
def lG(it:Fn (List PV))(fr:List (Option Nat))(tg:PV->Rho->Option Rho)(tst:Fn Bool)(el:Fn PV):Fn PV:=λρ=>bnd (it ρ) λl=>
 if l.length<=sizeLine then bnd (eZ tg tst el (frR fr ρ) l) λr=>some (.ok (.lst r)) else none
def lX:Fn Bool:=λ_=>some (.ok true)
theorem oW:MT K C S9 lX:=λF H σ ρ Q r R e P=>by
 cases e;exact P F H (Up.refl R.rb.sub)
theorem RE.block(R:RE K C.toCf F H σ ρ)(fr:List (Option Nat)):RE K C.toCf F H (frσ fr σ) (frR fr ρ)/\NoO (frR fr ρ):=by
 have nd:∀ (j:Nat) q,(frR fr ρ)[j]?≠some (some (.dp q)):=λj q e=>by
  unfold frR at e;rw[Zae] at e;cases e1:fr[j]? with
  |none=>rw[e1] at e;cases e
  |some o=>
   rw[e1] at e;cases o with
   |none=>cases e
   |some i=>
    simp only[ZbB,Option.some.injEq] at e;split at e
    ·rename_i v hv;unfold shOnly at e;split at e<;>cases e
    ·cases e
 have no:∀ (j:Nat) q,(frR fr ρ)[j]?≠some (some (.ow q)):=λj q e=>by
  unfold frR at e;rw[Zae] at e;cases e1:fr[j]? with
  |none=>rw[e1] at e;cases e
  |some o=>
   rw[e1] at e;cases o with
   |none=>cases e
   |some i=>
    simp only[ZbB,Option.some.injEq] at e;split at e
    ·rename_i v hv;unfold shOnly at e;split at e<;>cases e
    ·cases e
 refine⟨⟨R.rb,by unfold frσ frR;simp,λj p e=>?_,λj p e=>absurd e (no j p),λi j p q a e=>absurd e (no i p),_,RD.no nd⟩,λj q=>⟨no j q,nd j q⟩⟩
 unfold frR at e;rw[Zae] at e;unfold frσ;rw[Zae];cases e1:fr[j]? with
 |none=>rw[e1] at e;cases e
 |some o=>
  rw[e1] at e;cases o with
  |none=>cases e
  |some i=>
   simp only[ZbB,Option.some.injEq] at e ⊢;split at e
   ·rename_i v hv;unfold shOnly at e;split at e
    ·cases e;obtain⟨w,e2,e3⟩:=R.sh i _ hv;exact⟨w,by rw[e2],e3⟩
    ·cases e
   ·cases e
theorem RE.other(R:RE K C.toCf F H σ ρ){D:Addr}{o:HO}(hf:F D=none)(h0:C.H0 D=none)(no:NoO ρ):RE K C.toCf F (upd H D o) σ ρ where
 rb:=⟨λb u q=>by rw[aq (aW q hf)];exact R.rb.sub b u q,λb u q n=>by rw[aq (aW q h0)];exact R.rb.keep b u q n,R.rb.new,λb hb=>⟨by
  have:=(R.rb.ios b hb);by_cases hbD:b=D
  ·subst hbD;exact absurd h0 this.2
  ·rw[aq hbD];exact this.1,(R.rb.ios b hb).2⟩⟩
 len:=R.len
 sh:=R.sh
 ow:=λi p e=>absurd e (no i p).1
 dis:=λi j p q a e=>absurd e (no i p).1
 dd:=⟨_,RD.no λi p=>(no i p).2⟩
theorem RE.weak{ρ':Rho}(R:RE K C.toCf F H σ ρ')(hl:ρ.length=ρ'.length)(h:∀ (j:Nat) s,ρ[j]?=some (some s)->ρ'[j]?=some (some s)):RE K C.toCf F H σ ρ where
 rb:=R.rb
 len:=by rw[R.len,hl]
 sh:=λi p e=>R.sh i p (h i _ e)
 ow:=λi p e=>R.ow i p (h i _ e)
 dis:=λi j p q a e e'=>R.dis i j p q a (h i _ e) (h j _ e')
 dd:=let⟨P,d⟩:=R.dd;⟨P,d.own,d.dis,λi j q b z e=>d.ow i j q b z (h j _ e),λi p e=>d.dp i p (h i _ e)⟩
structure ItH(K:Frag)(J:It)(F H:Hp)(l:List PV):Prop where
 stop:∀ F' H',aR F F'->aR F' H'->aR H H'->J.stop l.length H'
 go:∀ i F' H',i<l.length->aR F F'->aR F' H'->aR H H'->J.go i H'
 yld:∀ i F' H' x H'',i<l.length->aR F F'->aR F' H'->aR H H'->J.yld i H' x H''->∃ F'' p,Up F' H' F'' H''/\l[i]?=some p/\Rep K F'' x p
def MIH(K:Frag)(C:Cg)(wi:TI)(f:Fn (List PV)):Prop:=
 ∀ F H σ ρ R' r,RE K C.toCf F H σ ρ->f ρ=some r->Pr C F (λl=>∀ J F' H',Up F H F' H'->ItH K J F' H' l->R' J H') r->wi σ H R'
theorem MI.h{wi:TI}{f:Fn (List PV)}(h:MI K C wi f):MIH K C wi f:=λF H σ ρ R' r R e P=>
 h F H σ ρ R' r R e (Pr.mono P (aR.refl _) λl q J F' H' u x=>q J F' H' u ⟨λa b c d _=>x.stop a b c d,λi a b hi c d _=>x.go i a b hi c d,λi a b y z hi c d _=>x.yld i a b y z hi c d⟩)
theorem JR(h:SqL K H a xs)(r:bG K F xs l):ItH K (Itl K a) F H l where
 stop:=λF' H' s s' t=>⟨xs,t.seq h,by rw[r.1];exact Zaf _⟩
 go:=λi F' H' hi s s' t=>⟨xs,xs[i]'(by rw[r.1];exact hi),t.seq h,by simp⟩
 yld:=λi F' H' x H'' hi s s' t y=>by
  obtain⟨rfl,y⟩:=y;have e:=y xs (t.seq h);obtain⟨p,e2,rp⟩:=r.got e;exact⟨F',p,Up.refl s',e2,rp.up s⟩
theorem JS{f:Fn (List PV)}(h:MJ K C (aV K) te f):MIH K C (JP K te) f:=by
 intro F H σ ρ R' r R e P;refine h F H σ ρ _ r R e (Pr.mono P (aR.refl _) λl q v F1 H1 u x=>?_);obtain⟨b,xs,rfl,hs,hr⟩:=x;exact .inl ⟨b,rfl,⟨xs,hs⟩,q _ F1 H1 u (JR hs hr)⟩
theorem rB{α β γ:Type}{x:Option (Res α)}{f:α->Option (Res β)}{g:β->Option (Res γ)}:bnd (bnd x f) g=bnd x λa=>bnd (f a) g:=by
 match x with
 |some (.ok a)=>rfl
 |some (.ex z)=>rfl
 |none=>rfl
theorem zu{wi:TI}{it:Fn (List PV)}{fr:List (Option Nat)}{gt:TG}{tg:PV->Rho->Option Rho}{T:List Nat}{tc:TT}{tst:Fn Bool}{el:Fn PV}(hi:MIH K C wi it)(hg:MG K C gt tg)(hT:Wr T tg)(ht:MT K C tc tst)(he:MJ K C (aF K) te el)
  (hfr:T.all (λj=>fr[j]?==some none)=true:=by rfl):MO K C (yX wi fr gt tc te) (lG it fr tg tst el):=by
 intro F H σ ρ Q r R e P;rcases dU e with⟨z,e1,rfl⟩|⟨l,e1,hk⟩
 ·exact hi F H σ ρ _ _ R e1 P
 split at hk
 case isFalse=>cases hk
 rename_i hlen;refine hi F H σ ρ _ _ R e1 λJ F1 H1 u hJ D hD=>?_;have R1:=R.up u;obtain⟨Rb,no⟩:=R1.block fr;have hD0:C.H0 D=none:=R1.rb.zc hD;have hFD:F1 D=none:=u.fh.free hD;have hρ:∀ (j:Nat),j∈T->(frR fr ρ)[j]?=some none:=λj hj=>by
  have:=Zbx.mp hfr j hj;unfold frR;rw[Zae,show fr[j]?=some none by simpa using this]
  rfl
 refine⟨λi m σ' H'=>∃ F' ys acc,m=l.length-i/\i<=l.length/\aR F1 F'/\(∀ b o,F' b=some o->F1 b=some o\/Frz H1 b o)/\aR H1 H'/\H' D=some (.lst ys)/\F' D=none/\bG K F' ys acc/\acc.length<=i /\
   RE K C.toCf F' H' σ' (frR fr ρ)/\bnd (eZ tg tst el (frR fr ρ) (l.drop i)) (λr=>some (.ok (.lst (acc++r))))=some r,
  ⟨l.length,F1,[],[],by simp,Zba _,aR.refl _,λ_ _ q=>.inl q,d7 hD,aA,hFD,.nil,Zaf _,Rb.other hFD hD0 no,by rw[Zbo];exact hk⟩,?_⟩
 rintro i m σ' H' ⟨F',ys,acc,rfl,hil,s1,fr1,sH,eD,nD,ra,hacc,R',e'⟩;by_cases hlt:i<l.length
 case neg=>
  have ei:i=l.length:=by omega
  subst ei;rw[List.drop_length] at e';have e':some (Res.ok (PV.lst (acc++[])))=some r:=e';rw[ZaS] at e';cases e';exact .inl ⟨hJ.stop F' H' s1 R'.rb.sub sH,P D F' H' (u.trans ⟨s1,sH,fr1,R'.rb.sub⟩) (u.hh.free hD) nD ⟨ys,eD,ra⟩⟩
 refine .inr ⟨hJ.go i F' H' hlt s1 R'.rb.sub sH,λσ2 H2=>∃ F2 ys acc,aR F1 F2/\(∀ b o,F2 b=some o->F1 b=some o\/Frz H1 b o)/\aR H1 H2/\H2 D=some (.lst ys)/\F2 D=none/\bG K F2 ys acc/\acc.length<=i+1 /\
   RE K C.toCf F2 H2 σ2 (frR fr ρ)/\bnd (eZ tg tst el (frR fr ρ) (l.drop (i+1))) (λr=>some (.ok (.lst (acc++r))))=some r,
  λσ2 H2 ⟨F2,ys,acc,z⟩=>⟨l.length-(i+1),by omega,F2,ys,acc,rfl,hlt,z⟩,λx H'' y=>?_⟩
 obtain⟨F'',p,u2,ep,rx⟩:=hJ.yld i F' H' x H'' hlt s1 R'.rb.sub sH y;have ed:l.drop i=p::l.drop (i+1):=by
  rw[Za7 hlt];rw[Zaa hlt] at ep;rw[Zah ep]
 rw[ed,eZ] at e';split at e'
 ·cases e'
 rename_i ρ1 h1;obtain⟨w1,w2,w3⟩:=hT p _ ρ1 h1;have no1:=w3 no;have weak:∀ (j:Nat) s,(frR fr ρ)[j]?=some (some s)->ρ1[j]?=some (some s):=λj s ej=>by
  rw[w2 j λz=>by rw[hρ j z] at ej;cases ej];exact ej
 refine hg F'' H'' σ' (frR fr ρ) x p ρ1 _ (R'.up u2) rx h1 λσ1 R1'=>?_;have stay:∀ {F3 H3:Hp},Up F' H' F3 H3->aR F1 F3/\(∀ b o,F3 b=some o->F1 b=some o\/Frz H1 b o)/\aR H1 H3/\H3 D=some (.lst ys)/\F3 D=none/\bG K F3 ys acc:=λ{F3 H3} u3=>by
  refine⟨s1.trans u3.ff,λb o q=>?_,sH.trans u3.hh,u3.hh _ _ eD,?_,ra.up u3.ff⟩
  ·rcases u3.fr b o q with z|z
   ·exact fr1 b o z
   ·exact .inr (z.imp (λz=>sH.free z) id)
  ·cases q:F3 D with
   |none=>rfl
   |some o=>
    rcases u3.fr D o q with z|z|⟨ys,z⟩
    ·rw[nD] at z;cases z
    ·rw[eD] at z;cases z
    ·subst z;have w:=u3.fh _ _ q;rw[u3.hh _ _ eD] at w;cases w
 have Pl:∀ {F3 H3:Hp},Up F' H' F3 H3->∀ {z:PV},r=.ex z->PX C F3 z:=λ{F3 H3} u3 {z} ez=>by
  subst ez;exact PX.up P (u.ff.trans (s1.trans u3.ff))
 rw[rB] at e';rcases dU e' with⟨z',e4,ez⟩|⟨b,e4,e5⟩
 ·exact ht F'' H'' σ1 ρ1 _ _ R1' e4 (Pl u2 ez)
 refine ht F'' H'' σ1 ρ1 _ _ R1' e4 λF3 H3 u3=>?_;have u23:=u2.trans u3;cases b with
 |false=>
  rw[Zak (by decide)] at e5 ⊢
  obtain⟨a1,a2,a3,a4,a5,a6⟩:=stay u23;exact⟨F3,ys,acc,a1,a2,a3,a4,a5,a6,by omega,(R1'.up u3).weak w1.symm weak,e5⟩
 |true=>
  rw[Zal rfl] at e5 ⊢;rw[rB] at e5;rcases dU e5 with⟨z',e6,ez⟩|⟨q,e6,e7⟩
  ·exact he F3 H3 σ1 ρ1 _ _ (R1'.up u3) e6 (Pl u23 ez)
  refine he F3 H3 σ1 ρ1 _ _ (R1'.up u3) e6 λv F4 H4 u4 rv=>?_;have u24:=u23.trans u4;obtain⟨a1,a2,a3,a4,a5,a6⟩:=stay u24;refine⟨ys,a4,by rw[a6.1];omega,F4,ys++[v],acc++[q],a1,a2,Hb hD a3,aA,a5,a6.snoc rv,by simp;omega,((R1'.up (u3.trans u4)).other a5 hD0 no1).weak w1.symm weak,?_⟩
  rw[rB] at e7;rw[<-e7];congr 1
  funext rr
  show some (Res.ok (PV.lst (acc++[q]++rr)))=some (Res.ok (PV.lst (acc++q::rr)))
  rw[Zau];rfl
theorem kj{wi:TI}{it:Fn (List PV)}{fr:List (Option Nat)}{gt:TG}{tg:PV->Rho->Option Rho}{T:List Nat}{tc:TT}{tst:Fn Bool}{el:Fn PV}(hi:MI K C wi it)(hg:MG K C gt tg)(hT:Wr T tg)(ht:MT K C tc tst)(he:MJ K C (aF K) te el)
  (hfr:T.all (λj=>fr[j]?==some none)=true:=by rfl):MO K C (yX wi fr gt tc te) (lG it fr tg tst el):=zu hi.h hg hT ht he hfr
end
def tyN:PV->Option String
 |.non=>some "NoneType"
 |.bl _=>some "bool"
 |.int _=>some "int"
 |.str _=>some "str"
 |.tup _=>some "tuple"
 |.lst _=>some "list"
 |.dk _=>some "dict"
 |.dt _=>some "dict"
 |_=>none
def Ra(t T:String):Option Bool:=
 if t=T then some true else
 if T="int" then some (t=="bool") else
 if T="bool"\/T="str"\/T="tuple"\/T="list"\/T="dict" then some false else none
theorem Nm{K:Frag}{p:PV}{t T:String}{b:Bool}(h:tyN p=some t)(e:Ra t T=some b):PySem.W.kitOne K (.type t) (.type T)=some b:=by
 have ht:t="NoneType"\/t="bool"\/t="int"\/t="str"\/t="tuple"\/t="list"\/t="dict":=by
  cases p<;>simp[tyN] at h<;>subst h<;>simp
 unfold Ra at e;split at e
 ·rename_i e1;subst e1;cases e;exact Jj
 ·split at e
  ·rename_i n1 e1;subst e1;cases e;rcases ht with rfl|rfl|rfl|rfl|rfl|rfl|rfl<;>first|exact absurd rfl n1|kernel_rfl
  ·split at e
   ·rename_i n1 n2 e1;cases e;rcases e1 with rfl|rfl|rfl|rfl|rfl<;>rcases ht with rfl|rfl|rfl|rfl|rfl|rfl|rfl<;>first|exact absurd rfl n1|kernel_rfl
   ·cases e
def isI(p:PV)(T:String):Option Bool:=match tyN p with
 |some t=>Ra t T
 |none=>none
section
variable{X:Cx}
def Rc(K:Frag):List V->Hp->VK->Prop:=λxs H Q=>∃ x p T b,xs=[x,.ty T]/\Rep K H x p/\isI p T=some b/\Q (.bl b) H
theorem zA:fL X (.builtin "isinstance") (Rc X.K):=by
 intro pins s σ H xs us Q I rv h;obtain⟨x,p,T,b,rfl,rp,e,q⟩:=h;obtain⟨u,v,rfl,ru,rw'⟩:=rv.two;cases rw';have fin:∀ tk,EP X pins σ Q (.bool b) { s with toks:=tk }:=λtk=>⟨.bl b,H,I.tok _,rfl,q⟩;unfold isI at e;split at e
 case h_2=>cases e
 rename_i t ht;have ek:=Nm (K:=X.K) ht e;cases rp with
 |non=>cases ru;cases ht;exact ZbD PySem.W.kitx_none I.kIn True.intro ek (λz=>nomatch z) fin
 |bl=>cases ru;cases ht;exact ZbD PySem.W.kitx_bool I.kIn True.intro ek (λz=>nomatch z) fin
 |int=>obtain⟨t,rfl⟩:=ru;cases ht;exact ZbD PySem.W.kitx_int I.kIn True.intro ek (λz=>nomatch z) fin
 |str=>obtain⟨t,rfl⟩:=ru;cases ht;exact ZbD PySem.W.kitx_str I.kIn True.intro ek (λz=>nomatch z) fin
 |ty=>cases ht
 |tup h=>
  cases ru;cases ht;obtain⟨_,_,⟨o,h1,h2,_⟩,_⟩:=I.tuple (SqT.of h);exact ZbD PySem.W.kitx_tuple I.kIn ⟨o,h1,h2⟩ ek (λz=>nomatch z) fin
 |lst h=>
  cases ru;cases ht;obtain⟨_,_,⟨o,n,h1,h2,_⟩,_⟩:=I.list h;exact ZbD PySem.W.kitx_list I.kIn ⟨o,h1,h2⟩ ek (λz=>nomatch z) fin
 |dk h=>
  cases ru;cases ht;obtain⟨_,_,vs,_,o,es,ep,h1,h2,_⟩:=h.ok I.hok;exact ZbD PySem.W.kitx_dict I.kIn ⟨o,h1,h2.1⟩ ek (λz=>nomatch z) fin
 |dt h=>
  cases ru;cases ht;obtain⟨_,_,vs,_,o,es,ep,h1,h2,_⟩:=h.ok I.hok;exact ZbD PySem.W.kitx_dict I.kIn ⟨o,h1,h2.1⟩ ek (λz=>nomatch z) fin
 |exc=>cases ht
 |exc0=>cases ht
end
section
variable{K:Frag}{C:Cg}{α β γ:Type}{A:Rel α}{B:Rel β}{D:Rel γ}{ta tb:TE}{f:Fn α}{g:Fn β}{rr:List V->Hp->VK->Prop}
def R1M(C:Cg)(A:Rel α)(D:Rel γ)(rr:List V->Hp->VK->Prop)(op:α->Option (Res γ)):Prop:=
 ∀ F H x a res Q,aR F H->A F H x a->op a=some res->Pr C F (λc=>∀ v F' H',Up F H F' H'->D F' H' v c->Q v H') res->rr [x] H Q
theorem cF{op:α->Option (Res γ)}(rule:R1M C A D rr op)(ha:MJ K C A ta f):MJ K C D (tCB rr (jk ta pK)) (m1 op f):=by
 intro F H σ ρ Q r R e P;refine ha.run R e P λp v F1 H1 hk u a=>?_;exact rule F1 H1 v p r Q u.fh a hk (P.later u)
def R1O(K:Frag)(C:Cg)(A:Rel α)(rr:List V->Hp->VK->Prop)(op:α->Option (Res PV)):Prop:=
 ∀ F H x a res Q,aR F H->A F H x a->op a=some res->Pr C F (λp=>∀ a F' H',Up F H F' H'->H a=none->F' a=none->Own K F' H' a p->Q (.ref a) H') res->rr [x] H Q
theorem oX{op:α->Option (Res PV)}(rule:R1O K C A rr op)(ha:MJ K C A ta f):MO K C (tCB rr (jk ta pK)) (m1 op f):=by
 intro F H σ ρ Q r R e P;refine ha.run R e P λp v F1 H1 hk u a=>?_;exact rule F1 H1 v p r Q u.fh a hk (P.BW u)
def R2B(C:Cg)(A:Rel α)(B:Rel β)(D:Rel γ)(rr:List V->Hp->VK->Prop)(op:α->β->Option (Res γ)):Prop:=
 ∀ F H x y a b res Q,aR F H->A F H x a->B F H y b->op a b=some res->Pr C F (λc=>∀ v F' H',Up F H F' H'->D F' H' v c->Q v H') res->rr [x,y] H Q
theorem Cj{op:α->β->Option (Res γ)}(up:UpM A)(rule:R2B C A B D rr op)(ha:MJ K C A ta f)(hb:MJ K C B tb g):MJ K C D (tCB rr (jk ta (jk tb pK))) (m2 op f g):=by
 intro F H σ ρ Q r R e P;refine ha.run R e P λp v F1 H1 hk u a=>?_;refine hb.run (R.up u) hk (P.later u) λq w F2 H2 hk2 u2 b=>?_;exact rule F2 H2 v w p q r Q u2.fh (up _ _ _ _ _ _ u2 a) b hk2 (P.later (u.trans u2))
def fj:PV->Option (Res PV)
 |.str z=>if z.length<=sizeLine then some (.ok (.int z.length)) else none
 |.lst l=>some (.ok (.int l.length))
 |.tup l=>some (.ok (.int l.length))
 |_=>none
theorem gJ:R1M C (aH K) (aF K) (λxs H Q=>∃ x n,xs=[x]/\SJ K x H n/\Q (.int n) H) fj:=by
 intro F H x a res Q s ha e P
 match a,e with
 |.str z,e=>
  cases Rep.bJ ha;have e:(if z.length<=sizeLine then some (Res.ok (PV.int z.length)) else none)=some res:=e;split at e
  ·rename_i hz;cases e;exact⟨_,_,rfl,⟨hz,rfl⟩,P _ F H (Up.refl s) .int⟩
  ·cases e
 |.lst l,e=>
  cases e;obtain⟨b,xs,rfl,h1,r1⟩:=Rep.cj ha;rw[<-r1.1] at P;exact⟨_,_,rfl,.inl ⟨xs,h1,rfl⟩,P _ F H (Up.refl s) .int⟩
 |.tup l,e=>
  cases e;obtain⟨b,xs,rfl,h1,r1⟩:=Rep.cg ha;rw[<-r1.1] at P;exact⟨_,_,rfl,.inr ⟨xs,h1,rfl⟩,P _ F H (Up.refl s) .int⟩
def Ck(p q:PV):Option (Res PV):=match q with
 |.ty T=>match isI p T with
  |some b=>some (.ok (.bl b))
  |none=>none
 |_=>none
theorem Rf:R2B C (aH K) (aF K) (aF K) (Rc K) Ck:=by
 intro F H x y a b res Q s ha hb e P
 match b,e with
 |.ty T,e=>
  cases Rep.QW hb;have e:(match isI a T with
   |some b=>some (Res.ok (PV.bl b))
   |none=>none)=some res:=e
  split at e
  ·rename_i k hk;cases e;exact⟨x,a,T,k,rfl,ha,hk,P _ F H (Up.refl s) .bl⟩
  ·cases e
def Ez:PV->Option (Res PV)
 |.int i=>some (.ok (.int i))
 |.bl b=>some (.ok (.int (if b then 1 else 0)))
 |_=>none
theorem Rg:R1M C (aF K) (aF K) (λxs H Q=>(∃ i,xs=[.int i]/\Q (.int i) H)\/∃ k,xs=[.bl k]/\Q (.int (if k then 1 else 0)) H) Ez:=by
 intro F H x a res Q s ha e P
 match a,e with
 |.int i,e=>
  cases Rep.bf ha;cases e;exact .inl ⟨i,rfl,P _ F H (Up.refl s) .int⟩
 |.bl b,e=>
  cases Rep.j7 ha;cases e;exact .inr ⟨b,rfl,P _ F H (Up.refl s) .int⟩
def EY:PV->Option (Res PV)
 |.int i=>some (.ok (.int (if i<0 then -i else i)))
 |_=>none
theorem Ql:R1M C (aF K) (aF K) (λxs H Q=>∃ i,xs=[.int i]/\Q (.int (if i<0 then -i else i)) H) EY:=by
 intro F H x a res Q s ha e P
 match a,e with
 |.int i,e=>
  cases Rep.bf ha;cases e;exact⟨i,rfl,P _ F H (Up.refl s) .int⟩
def xK(l:List PV):Option (Res PV):=some (.ok (.lst l))
theorem Rh:R1O K C (aV K) (λxs H Q=>∃ p ys,xs=[.ref p]/\(SqL K H p ys\/SqT K H p ys)/\∀ l,H l=none->Q (.ref l) (upd H l (.lst ys))) xK:=by
 intro F H x a res Q s ha e P;cases e;obtain⟨b,xs,rfl,h1,r1⟩:=ha;exact⟨b,xs,rfl,.inl h1,λl hl=>P l F _ (Up.vq s hl) hl (s.free hl) ⟨_,aA,r1⟩⟩
def JT(l:List PV):Option (Res PV):=some (.ok (.tup l))
theorem Tz:R1M C (aV K) (aF K) (λxs H Q=>∃ p ys,xs=[.ref p]/\((SqL K H p ys/\∀ l,H l=none->Q (.ref l) (upd H l (.tup ys)))\/(SqT K H p ys/\Q (.ref p) H))) JT:=by
 intro F H x a res Q s ha e P;cases e;obtain⟨b,xs,rfl,h1,r1⟩:=ha;refine⟨b,xs,rfl,.inl ⟨h1,λl hl=>?_⟩⟩;have un:=Up.new (o:=.tup xs) s hl;exact P _ _ _ un (.tup aA r1.1 (r1.up un.ff).2)
def lY:List PV->Option (List Str)
 |[]=>some []
 |.str b::r=>(lY r).map (b::·)
 |_=>none
theorem wg{F:Hp}:∀ {l:List PV}{bs:List Str}{xs:List V},lY l=some bs->bG K F xs l->xs=bs.map V.str
 |[],bs,xs,e,r=>by cases e;exact r.iC
 |.str b::l,bs,xs,e,r=>by
  rw[lY] at e;cases h:lY l with
  |none=>rw[h] at e;cases e
  |some cs=>
   rw[h] at e;cases e;obtain⟨v,ys,rfl,r1,r2⟩:=r.dB;rw[Rep.bJ r1,wg h r2];rfl
def Fb(f:Fn PV):Fn (List PV):=λρ=>bnd (f ρ) rO
def oY(i:Nat):Fn (List PV):=λρ=>bnd (mVL i ρ) rO
def Ri(i:Nat)(f:Sn):Sn:=λρ=>f (BZ i ρ)
end
noncomputable abbrev XR0:Hp->Value->Option Addr->PV->Prop:=λ_ _ _ _=>False
noncomputable abbrev C0(io:Addr->Prop)(H0 F0:Hp):Cg:=⟨⟨io,True,H0,F0,E0⟩,XR0⟩
def startR(ps:List PV)(k:Nat):Rho:=ps.map (λp=>some (.sh p))++List.replicate k none
def fin:Option Out->Option (Res PV)
 |some (.nx _)=>some (.ok .non)
 |some (.rt p)=>some (.ok p)
 |some (.ex z)=>some (.ex z)
 |_=>none
def sJ:Option Out->Option (Res PV)
 |some (.ro p)=>some (.ok p)
 |some (.ex z)=>some (.ex z)
 |_=>none
section
variable{K:Frag}{XR:Hp->Value->Option Addr->PV->Prop}{N:List Str}{vs:List V}{H:Hp}{Q:VK}{E:XK}{t:TS}{b:Sn}{m:List PV->Option (Res PV)}
theorem uh{E:XK}{F:Hp}{ps:List PV}{n:Nat}(s:aR F H)(r:bG K F vs ps)(hN:N.length=vs.length+n):RE K ⟨λ_=>False,True,H,F,E⟩ F H (start N vs) (startR ps n) where
 rb:=⟨s,λ_ _ h _=>h,λ_ _ h=>.inl h,λ_ h=>h.elim⟩
 len:=by unfold start startR;rw[List.length_append,List.length_append,List.length_map,List.length_map,List.length_replicate,List.length_replicate,r.1,hN];have:=r.1;lia
 sh:=λi p e=>by
  unfold startR at e;unfold start;by_cases hi:i<ps.length
  ·rw[ZaF (by simpa using hi),Zae] at e
   rw[ZaF (by rw[List.length_map,r.1];exact hi),Zae]
   cases h:ps[i]? with
   |none=>rw[h] at e;cases e
   |some q=>
    rw[h] at e;cases e;obtain⟨x,hx,rx⟩:=r.get h;exact⟨x,by rw[hx];rfl,rx⟩
  ·rw[ZaG (by simpa using hi),Zby] at e
   split at e<;>cases e
 ow:=λi p e=>by
  exfalso;unfold startR at e;by_cases hi:i<ps.length
  ·rw[ZaF (by simpa using hi),Zae] at e
   cases h:ps[i]? with
   |none=>rw[h] at e;cases e
   |some q=>rw[h] at e;cases e
  ·rw[ZaG (by simpa using hi),Zby] at e
   split at e<;>cases e
 dd:=⟨_,RD.no λi p e=>by
  unfold startR at e;by_cases hi:i<ps.length
  ·rw[ZaF (by simpa using hi),Zae] at e
   cases h:ps[i]? with
   |none=>rw[h] at e;cases e
   |some q=>rw[h] at e;cases e
  ·rw[ZaG (by simpa using hi),Zby] at e
   split at e<;>cases e⟩
 dis:=λi j p q a e=>by
  exfalso;unfold startR at e;by_cases hi:i<ps.length
  ·rw[ZaF (by simpa using hi),Zae] at e
   cases h:ps[i]? with
   |none=>rw[h] at e;cases e
   |some q=>rw[h] at e;cases e
  ·rw[ZaG (by simpa using hi),Zby] at e
   split at e<;>cases e
theorem du{k n:Nat}(hk:N.length=k+n)(hm:∀ ps r,m ps=some r->ps.length=k/\fin (b (startR ps n))=some r)(h:spM K XR0 m vs H Q E)(hS:∀ (io:Addr->Prop) (H0 F0:Hp),(∀ a,¬io a)->MS K (C0 io H0 F0) t b) :
  t { nx:=λ_ H'=>Q .non H',rt:=Q } (start N vs) H:=by
 obtain⟨ps,F,r,s,rp,e,P⟩:=h;obtain⟨hl,e⟩:=hm ps r e;have R:=uh (E:=E0) (N:=N) (n:=n) s rp (by rw[rp.1,hl];exact hk)
 have up:∀ {F' H':Hp},aR F F'->RB ⟨λ_=>False,True,H,F,E0⟩ F' H'->Up F H F' H':=λs' rb=>⟨s',λc o q=>rb.keep c o q id,rb.new,rb.sub⟩;have M:=hS (λ_=>False) H F (λ_ h=>h);cases ho:b (startR ps n) with
 |none=>rw[ho] at e;cases e
 |some o=>
  rw[ho] at e;refine M F H _ _ _ o R ho ?_;cases o with
  |nx ρ=>cases e;exact λF' H' σ s' R'=>P .non F' H' (up s' R'.rb) .non
  |rt p=>cases e;exact λv F' H' s' rb rv=>P v F' H' (up s' rb) rv
  |ex z=>exact λ_ _ _ _ _ _ x=>x.elim
  |ro p=>cases e
  |rd p=>cases e
  |bk ρ=>cases e
  |ct ρ=>cases e
theorem nH{k n:Nat}(hk:N.length=k+n)(hm:∀ ps r,m ps=some r->ps.length=k/\sJ (b (startR ps n))=some r)(h:spO K XR0 m vs H Q E)(hS:∀ (io:Addr->Prop) (H0 F0:Hp),(∀ a,¬io a)->MS K (C0 io H0 F0) t b) :
  t { nx:=λ_ H'=>Q .non H',rt:=Q } (start N vs) H:=by
 obtain⟨ps,F,r,s,rp,e,P⟩:=h;obtain⟨hl,e⟩:=hm ps r e;have R:=uh (E:=E0) (N:=N) (n:=n) s rp (by rw[rp.1,hl];exact hk)
 have up:∀ {F' H':Hp},aR F F'->RB ⟨λ_=>False,True,H,F,E0⟩ F' H'->Up F H F' H':=λs' rb=>⟨s',λc o q=>rb.keep c o q id,rb.new,rb.sub⟩;have M:=hS (λ_=>False) H F (λ_ h=>h);cases ho:b (startR ps n) with
 |none=>rw[ho] at e;cases e
 |some o=>
  rw[ho] at e;refine M F H _ _ _ o R ho ?_;cases o with
  |ro p=>cases e;exact λa F' H' s' rb w n1 n2=>P a F' H' (up s' rb) n2 n1 w
  |ex z=>exact λ_ _ _ _ _ _ x=>x.elim
  |nx ρ=>cases e
  |rt p=>cases e
  |rd p=>cases e
  |bk ρ=>cases e
  |ct ρ=>cases e
theorem dw(h:spM K XR m vs H Q E){k:Nat}(hm:∀ ps r,m ps=some r->ps.length=k):vs.length=k:=by
 obtain⟨ps,F,r,s,rp,e,P⟩:=h;rw[rp.1];exact hm ps r e
theorem nJ(h:spO K XR m vs H Q E){k:Nat}(hm:∀ ps r,m ps=some r->ps.length=k):vs.length=k:=by
 obtain⟨ps,F,r,s,rp,e,P⟩:=h;rw[rp.1];exact hm ps r e
end
section
variable{X:Cx}{N:List Str}{scope:Scope}{cl:List (Str×Addr)}{C:Addr}{s2:Shared}{H2:Hp}{fp:List Addr}
theorem Np:IxR (X.comp N scope cl C s2 H2 fp) (rIx X.K):=cB
theorem JV:OpR (X.comp N scope cl C s2 H2 fp) (binaryOp .Add) (JD X.K):=bB
theorem wj:fL (X.comp N scope cl C s2 H2 fp) (.builtin "isinstance") (Rc X.K):=zA
end
def TF(j:Nat):Option Out->Option (Res PV)
 |some (.nx ρ)=>match ownAt j ρ with
  |some p=>some (.ok p)
  |none=>none
 |_=>none
theorem zB:∀ {ns:List Int}{us:List Value},Vals (ns.map V.int) us->IntsAre us ns
 |[],us,r=>by rw[List.map_nil] at r;cases r;exact .nil
 |n::ns,us,r=>by
  rw[Zas] at r;cases r with
  |cons r1 r2=>
   obtain⟨t,e⟩:=r1;subst e;exact .cons n t (zB r2)
def jB:List PV->Option (List Int)
 |[]=>some []
 |.int n::l=>(jB l).map (n::·)
 |_=>none
theorem wk{K:Frag}{F:Hp}:∀ {l:List PV}{ns:List Int}{xs:List V},jB l=some ns->bG K F xs l->xs=ns.map V.int
 |[],ns,xs,h,r=>by
  cases h;exact List.length_eq_zero_iff.mp (by simpa using r.1)
 |.int n::l,ns,xs,h,r=>by
  cases hl:jB l with
  |none=>simp only[jB,hl] at h;cases h
  |some ms=>
   simp only[jB,hl] at h;cases h;obtain⟨v,ys,rfl,r1,r2⟩:=r.dB;cases Rep.bf r1;rw[wk hl r2];rfl
section
def wu:Fn PV:=λ_=>some (.ok (.dk []))
end
theorem ul:typeLookup (.type "list") "keys"=pure none:=am_miss_of_fast (by decide +kernel)
theorem sO:typeLookup (.type "tuple") "keys"=pure none:=am_miss_of_fast (by decide +kernel)
theorem fU:entryFor table "dict.update.loop"=some Builtin.«dict.update.loop»:=entryFor_of_tree (by kernel_rfl)
theorem bU:plainId "dict.update.loop"=true:=by decide +kernel
section
variable{prog:Program}{w:World}{A:Around}{E:Value->Shared->Prop}{s:Shared}{a:Addr}{o:Obj}{xs:Array Value}{k:Nat}{name:Str}{Q:Option Value->Shared->Prop}
theorem oZ(hx:s.heap.get? a=some o)(hc:o.cls=.type "list")(hdat:o.data=.seq xs k)(hd:o.dict=none)(hmiss:typeLookup (.type "list") name=pure none)(hname:(["__module__","__name__","__qualname__","__doc__","__annotations__"]:List Str).contains name=false)(hA:A.handled=none)
  (h:∀ h' tk,(∀ b ob,s.heap.get? b=some ob->h'.get? b=some ob)->Q none { s with heap:=h',toks:=tk })(hsz:name.length+100<=sizeLine:=by size_fits) :
  wpAny (model prog w) A (getAttr? (.ref a) name) Q E s:=by
 obtain⟨c,dct,dat,sl⟩:=o;simp only at hc hdat hd;subst hc hdat hd;obtain⟨hp,g,d,tk,os⟩:=s;have hT:∀ tk',(⟨hp,g,d,tk',os⟩:Shared).TypeIs (.ref a) "list":=λ_=>⟨_,hx,rfl⟩;have f1:=sub_AttributeError;have f3:=F.slot_list_getattribute.lookup;have f4:=F.slot_list_getattribute.bind (.ref a);have f5:=am_list_getattr_none;unfold getAttr? getAttrBy? getAttrBy;repeat (any_goals (first|assumption|exact hT _|((with_reducible show wpAny _ _ (call (Value.builtin "list.__getattribute__") _ _) _ _ _);refine call_meets F.slot_list_getattribute (hT _) am_entry_list_getattribute (F.args_list_getattribute_2 _ _) (meets_getattribute_miss_list a xs k sl name _ hmiss hname hsz) ⟨hx,hA,λh' tk' e hx'=>?_⟩)|wp_step))
 obtain⟨t',u',he⟩:=hx'.there;show wpAny _ _ (getattributeRaised _ _ _ _ _ _ _) _ _ _
 unfold getattributeRaised;repeat (any_goals (first|assumption|wp_step))
 exact h _ _ hx'.keeps
theorem oF(hx:s.heap.get? a=some o)(hc:o.cls=.type "tuple")(hdat:o.data=.seq xs k)(hd:o.dict=none)(hmiss:typeLookup (.type "tuple") name=pure none)(hname:(["__module__","__name__","__qualname__","__doc__","__annotations__"]:List Str).contains name=false)(hA:A.handled=none)
  (h:∀ h' tk,(∀ b ob,s.heap.get? b=some ob->h'.get? b=some ob)->Q none { s with heap:=h',toks:=tk })(hsz:name.length+100<=sizeLine:=by size_fits) :
  wpAny (model prog w) A (getAttr? (.ref a) name) Q E s:=by
 obtain⟨c,dct,dat,sl⟩:=o;simp only at hc hdat hd;subst hc hdat hd;obtain⟨hp,g,d,tk,os⟩:=s;have hT:∀ tk',(⟨hp,g,d,tk',os⟩:Shared).TypeIs (.ref a) "tuple":=λ_=>⟨_,hx,rfl⟩;have f1:=sub_AttributeError;have f3:=F.slot_tuple_getattribute.lookup;have f4:=F.slot_tuple_getattribute.bind (.ref a);have f5:=am_tuple_getattr_none;unfold getAttr? getAttrBy? getAttrBy;repeat (any_goals (first|assumption|exact hT _|((with_reducible show wpAny _ _ (call (Value.builtin "tuple.__getattribute__") _ _) _ _ _);refine call_meets F.slot_tuple_getattribute (hT _) am_entry_tuple_getattribute (F.args_tuple_getattribute_2 _ _) (meets_getattribute_miss_tuple a xs k sl name _ hmiss hname hsz) ⟨hx,hA,λh' tk' e hx'=>?_⟩)|wp_step))
 obtain⟨t',u',he⟩:=hx'.there;show wpAny _ _ (getattributeRaised _ _ _ _ _ _ _) _ _ _
 unfold getattributeRaised;repeat (any_goals (first|assumption|wp_step))
 exact h _ _ hx'.keeps
end
section
variable{X:Cx}{pins:List (Addr×Obj)}{σ:St}{H H':Hp}{s:Shared}{d:Addr}{y v:V}{u r:Value}{A:Around}{E:Value->Shared->Prop}
theorem Hk{Q:Unit->Shared->Prop}(hu:A.units<cLine)(I:Inv X pins σ H s)(g:pR H d y v H')(ry:RelV y u)(rv:RelV v r)(h:∀ h' tk,Heap.SameBut d s.heap h'->Inv X pins σ H' { s with heap:=h',toks:=tk }->Q () { s with heap:=h',toks:=tk }) :
  wpAny (model X.prog X.w) A (dictSet d u r) Q E s:=by
 rcases g with⟨kvs,k,e,ey,l,eH⟩|⟨kvs,k,b,e,ey,eb,l,eH⟩
 ·subst ey eH;obtain⟨z,hd,vs,rel,dd⟩:=Jl I.hok e;have hz:vs.length<=sizeLine:=by rw[<-rel.length];exact z
  have hl:(putK kvs k v).length<=sizeLine:=by have:=gH kvs k v;omega
  refine wpAny_dictSet_pairs (hsz:=hz) (ud ry) dd λh' dd' hs=>h h' _ hs ?_;have he:∃ q,h'.get? d=some q:=let⟨q,_,_,hq,_⟩:=dd';⟨q,hq⟩;exact pU I (by rw[e];exact True.intro) hs he (BP hl hd (rel.put k rv) dd')
 ·subst ey eH;cases (show u=Value.ref b from ry);obtain⟨z,hd,xs,rel,dd⟩:=Qg I.hok e;have hz:xs.length<=sizeLine:=by rw[<-Paired.length rel];exact z
  have hl:(putK kvs k v).length<=sizeLine:=by have:=gH kvs k v;omega
  refine wpAny_dictSet_heap (hsz:=hz) (show(tupleKind (bx X.prog X.w)).room A from hu) (q9 I.hok eb) dd λh' dd' hs=>h h' _ hs ?_;obtain⟨q,es,ep,hq,h2,h3,h4,_,h5⟩:=dd';refine pU I (by rw[e];exact True.intro) hs ⟨q,hq⟩ ⟨hl,hd,_,(rel.put k eb rv).keeps λc ys ec=>?_,q,es,ep,hq,h2,h3,h4,h5⟩
  rw[aq (PK ec e (λz=>nomatch z))];exact ec
theorem pR.other(g:pR H d y v H'){b:Addr}(hb:b≠d):H' b=H b:=by
 rcases g with⟨kvs,k,e,ey,l,rfl⟩|⟨kvs,k,b',e,ey,eb,l,rfl⟩
 ·exact aq hb
 ·exact aq hb
def ww(d:Addr):List (V×V)->Hp->(Hp->Prop)->Prop
 |[],H,Q=>Q H
 |(y,v)::r,H,Q=>∃ H',pR H d y v H'/\ww d r H' Q
def xm(K:Frag)(H:Hp)(ys:List V)(ps:List (V×V)):Prop:=ys.length=ps.length/\∀ (j:Nat) x p,ys[j]?=some x->ps[j]?=some p->∃ T,x=.ref T/\SqT K H T [p.1,p.2]
theorem SqT.but{K:Frag}{T:Addr}{xs:List V}(h:SqT K H T xs)(hb:∀ b,b≠d->H' b=H b)(hn:T≠d):SqT K H' T xs:=by
 rcases h with(h|⟨o,h⟩)|h
 ·exact .inl (.inl (by rw[hb T hn];exact h))
 ·exact .inl (.inr ⟨o,by rw[hb T hn];exact h⟩)
 ·exact .inr h
theorem JW{it:Addr}{fp:List Addr}{n:Nat}{P:Nat->Value->Prop}{St:Nat->Heap->Prop}{ps:List (V×V)}{R:Result->Shared->Prop}{H0:Hp}(hc:X.calm=true)(W:Walks X.prog X.w A.in1 it fp [it] n P St)(hu:A.in1.units<cLine)
  (hn:ps.length=n)(hd:d ∉ fp)(hit:∀ H,H d≠none->(∀ b,b≠d->H b=H0 b)->oK X pins H it)
  (hp:∀ (i:Nat) v p,P i v->ps[i]?=some p->∃ T,v=.ref T/\T≠d/\SqT X.K H0 T [p.1,p.2]) :
  ∀ (k i:Nat) (s:Shared) (H:Hp),n-i=k->i<=n->St i s.heap->Inv X pins σ H s->H d≠none->(∀ b,b≠d->H b=H0 b)->∀ tk,ww d (ps.drop i) H (λH'=>∀ s',Inv X pins σ H' s'->R (.ok (.ret .none)) s') ->
   codeAny (model X.prog X.w) A (.builtin "dict.update.loop" ⟨[.ref d,.ref it,.int i tk,.none],[]⟩) R s:=by
 intro k;induction k with
 |zero=>
  intro i s H hk hi hst I hHd hb tk hR;have hin:i=n:=by omega
  subst hin;refine codeAny_builtin fU ?_;rw[Zbt bU _];show wpAny _ A.in1 (pyNext (.ref it)>>=_) _ _ s
  refine Zab (W.done s _ _ hst λh' tk' hk'=>?_);show wpAny _ _ (Builtin.Dict.addKeywords d []>>=_) _ _ _
  rw[Zbn (by omega)] at hR
  exact Zab (Zaj (Zaj (hR _ (I.nA hk' λb hb'=>by rw[Zai.mp hb'];exact hit H hHd hb))))
 |succ k ih=>
  intro i s H hk hi hst I hHd hb tk hR;have hlt:i<n:=by omega
  have hlp:i<ps.length:=by omega
  have hdr:ps.drop i=ps[i]::ps.drop (i+1):=Za7 hlp;rw[hdr] at hR;refine codeAny_builtin fU ?_;rw[Zbt bU _];show wpAny _ A.in1 (pyNext (.ref it)>>=_) _ _ s
  refine Zab (W.item i s _ _ hlt hst λv h' tk' hP hst' hk'=>?_);obtain⟨T,rfl,hT,hq⟩:=hp i v ps[i] hP (by simp[hlp])
  have I1:Inv X pins σ H { s with heap:=h',toks:=tk' }:=I.nA hk' λb hb'=>by rw[Zai.mp hb'];exact hit H hHd hb
  obtain⟨its,rv,ht,_⟩:=I1.tuple (SqT.but hq hb hT);obtain⟨u1,u2,rfl,r1,r2⟩:∃ u1 u2,its=[u1,u2]/\RelV ps[i].1 u1/\RelV ps[i].2 u2:=by
   cases rv with
   |cons a t=>cases t with
    |cons b t=>cases t;exact⟨_,_,rfl,a,b⟩
  obtain⟨H',g,hR⟩:=hR;refine Zab (wpAny_holding (Zab (wpAny_tryCatch ?_)));unfold Builtin.Dict.pairItems;refine Zab (wpAny_typeOf ht.typeIs ?_);rw[Zal (by decide)]
  obtain⟨o,h1,_,m,h2⟩:=ht;refine Zab (wpAny_seqItems h1 h2 (Zaj ?_));show wpAny _ A.in1 (holding [u1,u2] (dictSet d u1 u2)) _ _ _
  refine wpAny_holding (Hk hu I1 g r1 r2 λh2' tk2 hs2 I2=>?_);refine Zaj ⟨plainId_quiet bU _,?_⟩;have:=ih (i+1) { s with heap:=h2',toks:=tk2 } H' (by omega) hlt (W.frame _ _ _ hst' λb hb' o e=>(hs2.2 b λz=>hd (by rw[<-z];exact hb')).trans e) I2
   (by rcases g with⟨_,_,_,_,_,rfl⟩|⟨_,_,_,_,_,_,_,rfl⟩<;>rw[aA]<;>simp) (λb hb'=>(pR.other g hb').trans (hb b hb')) 0 hR
  exact this
end
theorem um:∀ {xs:List V}{us:List Value}{i:Nat}{u:Value},Vals xs us->us[i]?=some u->∃ x,xs[i]?=some x/\RelV x u
 |[],_,i,u,r,h=>by cases r;simp at h
 |x::xs,_,i,u,r,h=>by
  cases r with
  |cons a t=>
   cases i with
   |zero=>simp at h;subst h;exact⟨x,rfl,a⟩
   |succ i=>obtain⟨y,h1,h2⟩:=um (i:=i) t (by simpa using h);exact⟨y,by simpa using h1,h2⟩
def xM(K:Frag)(n:HO):List V->Hp->VK->Prop:=λxs H Q=>∃ p ys ps,xs=[.ref p]/\(SqL K H p ys\/H p=some (.tup ys))/\xm K H ys ps/\∀ d,H d=none->ww d ps (upd H d n) λH'=>Q (.ref d) H'
section
variable{X:Cx}
theorem Cm{n:HO}(hc:X.calm=true)(hu:X.A.units+64<cLine)(hn:n=.dK []\/n=.dT []):fL X (.type "dict") (xM X.K n):=by
 intro pins s σ H xs us Q I rv h;obtain⟨p,ys,ps,rfl,hq,hps,q⟩:=h;obtain⟨u,rfl,ru⟩:=rv.one;cases ru;have hh:X.A.handled=none:=I.ok.hd hc;refine callType_codes (Q₁:=λobj s₁=>obj=.ref s.heap.objs.size/\s₁={ s with heap:=s.heap.push { cls:=.type "dict",data:=.dict #[] } }) F.kt_called_dict (F.kt_typeCall_dict_1 _) F.entry_dict_init (kt_code_dict_new _ ⟨rfl,rfl⟩) ?_;rintro obj s₁ ⟨rfl,rfl⟩;have ok:cL X.prog X.w (upd H s.heap.objs.size n) (s.heap.push { cls:=.type "dict",data:=.dict #[] }) s.heap.objs.size n:=by
  rcases hn with rfl|rfl
  ·exact zb s.heap I.big
  ·exact Jo s.heap I.big
 have hfree:H s.heap.objs.size=none:=I.hok.fresh (Zaf _);have I1:Inv X pins σ (upd H s.heap.objs.size n) { s with heap:=s.heap.push { cls:=.type "dict",data:=.dict #[] } }:=I.laid (a:=s.heap.objs.size) (o:=n) (t':=s.toks) (λ_ _ q=>Zac _ q) (Zaf _) ok;have q:=q _ hfree;have hd1:(s.heap.push { cls:=.type "dict",data:=.dict #[] }).get? s.heap.objs.size=some { cls:=.type "dict",data:=.dict #[] }:=Zam _ rfl;have tyD:({ s with heap:=s.heap.push { cls:=.type "dict",data:=.dict #[] } }:Shared).TypeIs (.ref s.heap.objs.size) "dict":=⟨_,hd1,rfl⟩;refine⟨tyD,F.args_dict_init_2 _ _,?_⟩;unfold Builtin.«dict.__init__»;refine Zab ?_;unfold Builtin.Dict.selfAndRest;refine Zab (wpAny_notOrdered_dict tyD ?_);show wpAny _ _ (pure (s.heap.objs.size,[Value.ref p])) _ _ _
 refine Zaj ?_;show wpAny _ _ (Builtin.Dict.updateFrom "dict.__init__" s.heap.objs.size (.ref p) [] .none) _ _ _
 unfold Builtin.Dict.updateFrom;have same:aR H (upd H s.heap.objs.size n):=d7 hfree;have hnd:∀ (j:Nat) x pr,ys[j]?=some x->ps[j]?=some pr->∃ T,x=.ref T/\T≠s.heap.objs.size/\SqT X.K (upd H s.heap.objs.size n) T [pr.1,pr.2]:=λj x pr e1 e2=>by
  obtain⟨T,rfl,hT⟩:=hps.2 j x pr e1 e2;obtain⟨its,_,ht,_⟩:=I.tuple hT;exact⟨T,rfl,Zaz ht.lt,same.tup hT⟩
 have fin:∀ (h2:Heap) (tk:Nat) (o:Obj) (St:Nat->Heap->Prop) (its:List Value),(∀ b ob,(s.heap.push { cls:=.type "dict",data:=.dict #[] }).get? b=some ob->h2.get? b=some ob)->Vals ys its ->
   Walks X.prog X.w X.A.in1.in1 h2.objs.size [h2.objs.size,p] [h2.objs.size] its.toArray.size (λi v=>its.toArray[i]?=some v) St->St 0 (h2.push o)->p≠s.heap.objs.size->(∀ b,o.cls≠.ref b) ->
   codeAny (model X.prog X.w) X.A.in1 (.builtin "dict.update.loop" ⟨[.ref s.heap.objs.size,.ref h2.objs.size,.int (0:Nat) 0,.none],[]⟩) (wants (λr s₂=>r=.none/\EP X pins σ Q (.ref s.heap.objs.size) s₂) X.xe) { s with heap:=h2.push o,toks:=tk }:=by
  intro h2 tk o St its hk rv W h0 hp _;have I2:Inv X pins σ (upd H s.heap.objs.size n) { s with heap:=h2,toks:=tk }:=I1.kept hk;have I3:Inv X pins σ (upd H s.heap.objs.size n) { s with heap:=h2.push o,toks:=tk }:=I2.kept (t':=tk) λb ob e=>Zac _ e;have lt1:s.heap.objs.size<h2.objs.size:=Zaq (hk _ _ hd1);have hn2:upd H s.heap.objs.size n h2.objs.size=none:=I2.hok.fresh (Zaf _);refine JW (A:=X.A.in1) (ps:=ps) (H0:=upd H s.heap.objs.size n) hc W (show X.A.units+2<cLine by lia) ?_ ?_ (λHx hx1 hx2=>?_) (λi v pr hv hpr=>?_) _ 0 _ _ rfl (Zba _) h0 I3 (by rw[aA];simp) (λ_ _=>rfl) 0 ?_
  ·rw[List.size_toArray,<-rv.length];exact hps.1.symm
  ·intro z;rcases Zay.mp z with z|z
   ·exact absurd z (Zaz lt1)
   ·exact absurd (Zai.mp z).symm hp
  ·exact I2.tZ (Zaf _) (by rw[hx2 _ (Zb1 lt1)];exact hn2)
  ·rw[List.getElem?_toArray] at hv;obtain⟨y,hy,ry⟩:=um rv hv;obtain⟨T,rfl,h1,h2⟩:=hnd i y pr hy hpr;cases ry;exact⟨T,rfl,h1,h2⟩
  ·rw[Zbo];have mono:∀ (ps:List (V×V)) (Hx:Hp) (P1 P2:Hp->Prop),(∀ H,P1 H->P2 H)->ww s.heap.objs.size ps Hx P1->ww s.heap.objs.size ps Hx P2:=by
    intro ps;induction ps with
    |nil=>exact λHx P1 P2 hP h=>hP _ h
    |cons a r ih=>exact λHx P1 P2 hP ⟨H',g,h⟩=>⟨H',g,ih _ _ _ hP h⟩
   exact mono _ _ _ _ (λHx hQ s' Is=>⟨rfl,.ref _,Hx,Is,rfl,hQ⟩) q
 rcases hq with hq|hq
 ·obtain⟨its,rv,pl,hz⟩:=I1.list (same.seq hq);have hp:p≠s.heap.objs.size:=λz=>by
   obtain⟨o,m,e,c,_⟩:=pl;rw[z,hd1] at e;cases e;exact absurd (show Value.type "dict"=Value.type "list" from c) (by decide)
  obtain⟨o,m,e,c,dn,dt⟩:=id pl;refine Zab (wpAny_typeOf (show Shared.TypeIs _ (.ref p) "list" from⟨_,e,c⟩) ?_);rw[Zal (by decide)]
  refine Zab (oZ e c dt dn ul (by decide +kernel) hh λh2 tk hk=>?_)
  rw[Zal (show(none:Option Value).isNone=true from rfl)];refine Zab (wpAny_rule (Zab (wpAny_pyIter_list ((pl.keeps hk).isList) ?_)));refine Zaj ⟨plainId_quiet bU _,fin h2 tk _ _ its hk rv (Walks.list (A:=X.A.in1.in1) hh _ p (Zaz (pl.keeps hk).lt) its.toArray) ⟨⟨_,Zam _ rfl,rfl,rfl⟩,(pl.keeps λb ob eb=>Zac _ (hk b ob eb)).isList⟩ hp (λb z=>nomatch z)⟩
 ·obtain⟨_,its,rv,tn⟩:=(show cL X.prog X.w _ _ p (.tup ys) from I1.hok p _ (same _ _ hq));have hp:p≠s.heap.objs.size:=λz=>by
   obtain⟨⟨o,e,c,_⟩,_⟩:=tn;rw[z,hd1] at e;cases e;exact absurd (show Value.type "dict"=Value.type "tuple" from c) (by decide)
  obtain⟨⟨o,e,c,m,dt⟩,dn⟩:=id tn;refine Zab (wpAny_typeOf (show Shared.TypeIs _ (.ref p) "tuple" from⟨_,e,c⟩) ?_);rw[Zal (by decide)]
  refine Zab (oF e c dt (dn o e) sO (by decide +kernel) hh λh2 tk hk=>?_)
  rw[Zal (show(none:Option Value).isNone=true from rfl)];have tp:({ s with heap:=h2,toks:=tk }:Shared).heap.IsTuple p its.toArray:=⟨o,hk _ _ e,c,m,dt⟩;refine Zab (wpAny_rule (Zab (wpAny_pyIter_tuple tp ?_)));refine Zaj ⟨plainId_quiet bU _,fin h2 tk _ _ its hk rv (Walks.tuple (A:=X.A.in1.in1) hh _ p (Zaz (Zaq (hk _ _ e))) its.toArray) ⟨⟨_,Zam _ rfl,rfl,rfl⟩,⟨o,Zac _ (hk _ _ e),c,m,dt⟩⟩ hp (λb z=>nomatch z)⟩
end
section
variable{κ:Type}[DecidableEq κ]
def bZ:List (κ×PV)->κ->Option PV
 |[],_=>none
 |(a,p)::l,k=>if a=k then some p else bZ l k
def jd:List (κ×PV)->κ->PV->List (κ×PV)
 |[],k,p=>[(k,p)]
 |(a,q)::l,k,p=>if a=k then(a,p)::(if(l.any λe=>decide (e.1=k))=true then jd l k p else l) else(a,q)::jd l k p
inductive fC(K:Frag)(F:Hp):List (κ×V)->List (κ×PV)->Prop
 |nil:fC K F [] []
 |cons {k:κ}{v:V}{p:PV}{xs:List (κ×V)}{l:List (κ×PV)} (h:Rep K F v p) (t:fC K F xs l):fC K F ((k,v)::xs) ((k,p)::l)
variable{K:Frag}{F:Hp}{xs:List (κ×V)}{l:List (κ×PV)}{k:κ}
theorem fC.of:∀ {xs:List (κ×V)}{l:List (κ×PV)},xs.map (·.1)=l.map (·.1)->(∀ (j:Nat) x p,xs[j]?=some x->l[j]?=some p->Rep K F x.2 p.2)->fC K F xs l
 |[],[],_,_=>.nil
 |[],_::_,h,_=>by simp at h
 |_::_,[],h,_=>by simp at h
 |(a,v)::xs,(b,p)::l,h,hr=>by
  simp only[Zas,List.cons.injEq] at h;obtain⟨h1,h2⟩:=h;have h1:a=b:=h1;subst h1;exact .cons (hr 0 _ _ rfl rfl) (fC.of h2 λj x p e1 e2=>hr (j+1) x p (by simpa using e1) (by simpa using e2))
theorem fC.keys(h:fC K F xs l):xs.map (·.1)=l.map (·.1):=by
 induction h with
 |nil=>rfl
 |cons h t ih=>simp[ih]
theorem fC.len(h:fC K F xs l):xs.length=l.length:=by
 have:=ZbI List.length h.keys;simpa using this
theorem fC.at(h:fC K F xs l):∀ (j:Nat) x p,xs[j]?=some x->l[j]?=some p->Rep K F x.2 p.2:=by
 induction h with
 |nil=>intro j x p e;simp at e
 |cons h t ih=>
  intro j x p e1 e2;cases j with
  |zero=>simp at e1 e2;subst e1 e2;exact h
  |succ j=>exact ih j x p (by simpa using e1) (by simpa using e2)
theorem fC.none(h:fC K F xs l)(e:bZ l k=none):gR xs k=none:=by
 induction h with
 |nil=>rfl
 |@cons a v p xs l h t ih=>
  unfold bZ at e;split at e
  ·cases e
  ·rename_i hk;rw[jc hk];exact ih e
theorem fC.some{p:PV}(h:fC K F xs l)(e:bZ l k=some p):∃ v,gR xs k=some v/\Rep K F v p:=by
 induction h with
 |nil=>cases e
 |@cons a v q xs l h t ih=>
  unfold bZ at e;split at e
  ·rename_i hk;cases e;exact⟨v,lN hk,h⟩
  ·rename_i hk;obtain⟨w,h1,h2⟩:=ih e;exact⟨w,by rw[jc hk];exact h1,h2⟩
theorem fC.any(h:fC K F xs l):(xs.any λe=>decide (e.1=k))=l.any λe=>decide (e.1=k):=by
 induction h with
 |nil=>rfl
 |cons h t ih=>simp only[ZbO,ih]
theorem fC.repl{v:V}{p:PV}(h:fC K F xs l)(r:Rep K F v p):(l.any λe=>decide (e.1=k))=true->fC K F (xs.map λkv=>if kv.1=k then(kv.1,v) else kv) (jd l k p):=by
 induction h with
 |nil=>intro z;cases z
 |@cons a w q xs l h t ih=>
  intro z;unfold jd;rw[Zas];by_cases hk:a=k
  ·rw[Zal hk,Zal hk];refine .cons r ?_;by_cases hl:(l.any λe=>decide (e.1=k))=true
   ·rw[Zal hl];exact ih hl
   ·rw[Zak hl];have hx:∀ e∈xs,¬e.1=k:=λe he z=>hl (by rw[<-t.any];exact List.any_eq_true.mpr ⟨e,he,by simpa using z⟩)
    rw[show xs.map (λkv=>if kv.1=k then(kv.1,v) else kv)=xs from by
     conv=>rhs;rw[<-List.map_id xs]
     exact Zbf λe he=>by rw[Zak (hx e he)];rfl]
    exact t
  ·rw[Zak hk,Zak hk];refine .cons h (ih ?_);rw[ZbO] at z;simpa[hk] using z
theorem fC.snoc{v:V}{p:PV}(h:fC K F xs l)(r:Rep K F v p):(l.any λe=>decide (e.1=k))=false->fC K F (xs++[(k,v)]) (jd l k p):=by
 induction h with
 |nil=>intro _;exact .cons r .nil
 |@cons a w q xs l h t ih=>
  intro z;rw[ZbO,Bool.or_eq_false_iff] at z;have hk:¬a=k:=by simpa using z.1
  unfold jd;rw[Zak hk];exact .cons h (ih z.2)
theorem fC.put{v:V}{p:PV}(h:fC K F xs l)(r:Rep K F v p):fC K F (putK xs k v) (jd l k p):=by
 unfold putK;by_cases z:(xs.any λe=>decide (e.1=k))=true
 ·rw[Zal z];exact h.repl r (by rw[<-h.any];exact z)
 ·rw[Zak z];exact h.snoc r (by rw[<-h.any];exact Bool.not_eq_true _▸z)
end
def pZ:PV->Option Key
 |.int i=>some (.inl i)
 |.str x=>some (.inr x)
 |_=>none
def km:List PV->Option (List Key)
 |[]=>some []
 |p::l=>match pZ p,km l with
  |some k,some ks=>some (k::ks)
  |_,_=>none
def Cp:Key->PV
 |.inl i=>.int i
 |.inr x=>.str x
theorem p6{K:Frag}{F:Hp}{p:PV}{k:Key}{v:V}(h:pZ p=some k)(r:Rep K F v p):v=kV k:=by
 cases p with
 |int i=>cases h;cases Rep.bf r;rfl
 |str x=>cases h;cases Rep.bJ r;rfl
 |_=>cases h
theorem rC{K:Frag}{F:Hp}:∀ {l:List PV}{ks:List Key}{xs:List V},km l=some ks->bG K F xs l->xs=ks.map kV
 |[],ks,xs,h,r=>by cases h;exact r.iC
 |p::l,ks,xs,h,r=>by
  unfold km at h;split at h
  ·rename_i k ks' h1 h2;cases h;obtain⟨v,ys,rfl,r1,r2⟩:=r.dB;rw[p6 h1 r1,rC h2 r2];rfl
  ·cases h
def PV.isD:PV->Bool
 |.dk _=>true
 |.dt _=>true
 |_=>false
def DLk(K:Frag)(F H:Hp)(a:Addr):PV->Prop
 |.dk l=>∃ xs,Rd H a (.dK xs)/\xs.map (·.1)=l.map (·.1)/\∀ (j:Nat) x p,xs[j]?=some x->l[j]?=some p->Rep K F x.2 p.2
 |.dt l=>∃ xs,Rd H a (.dT xs)/\xs.map (·.1)=l.map (·.1)/\∀ (j:Nat) x p,xs[j]?=some x->l[j]?=some p->Rep K F x.2 p.2
 |_=>False
theorem DLk.up{K:Frag}{F H F' H':Hp}{a:Addr}{p:PV}(o:DLk K F H a p)(sf:aR F F')(sh:aR H H'):DLk K F' H' a p:=by
 cases p with
 |dk l=>obtain⟨xs,e,r,q⟩:=o;exact⟨xs,e.same sh,r,λj x p a b=>(q j x p a b).up sf⟩
 |dt l=>obtain⟨xs,e,r,q⟩:=o;exact⟨xs,e.same sh,r,λj x p a b=>(q j x p a b).up sf⟩
 |_=>exact o.elim
theorem Own.look{K:Frag}{F H:Hp}{a:Addr}{p:PV}(o:Own K F H a p)(d:p.isD=true):DLk K F H a p:=by
 cases p with
 |dk l=>obtain⟨xs,e,r⟩:=o;exact⟨xs,.inl e,r⟩
 |dt l=>obtain⟨xs,e,r⟩:=o;exact⟨xs,.inl e,r⟩
 |_=>cases d
def aD(K:Frag):Rel PV:=λF H v p=>p.isD=true/\∃ a,v=.ref a/\DLk K F H a p
theorem aD.up{K:Frag}:UpM (aD K):=λ_ _ _ _ _ _ u ⟨h1,b,e,o⟩=>⟨h1,b,e,o.up u.ff u.hh⟩
def asD(p:PV):Option (Res PV):=if p.isD=true then some (.ok p) else none
theorem Rep.own{K:Frag}{F H:Hp}{v:V}{p:PV}(r:Rep K F v p)(s:aR F H)(d:p.isD=true):∃ a,v=.ref a/\DLk K F H a p:=by
 cases r with
 |dk h hl hr=>exact⟨_,rfl,_,h.same s,hl,hr⟩
 |dt h hl hr=>exact⟨_,rfl,_,h.same s,hl,hr⟩
 |_=>cases d
section
variable{K:Frag}{C:Cg}{ta tb tc te:TE}{f g h:Fn PV}
def xN(f:Fn PV):Fn PV:=λρ=>bnd (f ρ) asD
def dX(i:Nat):Fn PV:=λρ=>bnd (mVL i ρ) asD
theorem JX(h:MJ K C (aF K) ta f):MJ K C (aD K) ta (xN f):=by
 intro F H σ ρ Q r R e P;refine h.run R e P λp v F1 H1 hk u a=>?_;unfold asD at hk;split at hk
 ·rename_i hd;cases hk;exact P v F1 H1 u ⟨hd,Rep.own a u.fh hd⟩
 ·cases hk
theorem dH(i:Nat):MJ K C (aD K) (pJ i) (dX i):=by
 intro F H σ ρ Q r R e P;unfold dX at e;rcases dU e with⟨z,e1,rfl⟩|⟨p,e1,hk⟩
 ·unfold mVL at e1;split at e1<;>cases e1
 ·unfold asD at hk;split at hk
  case isFalse=>cases hk
  rename_i hd;cases hk;unfold mVL at e1;split at e1
  ·rename_i q hq;cases e1;obtain⟨v,e2,e3⟩:=R.sh i _ hq;exact⟨v,e2,P v F H (Up.refl R.rb.sub) ⟨hd,Rep.own e3 R.rb.sub hd⟩⟩
  ·rename_i q hq;cases e1;obtain⟨a,e2,e3,_⟩:=R.ow i _ hq;exact⟨_,e2,P _ F H (Up.refl R.rb.sub) ⟨hd,a,rfl,e3.look hd⟩⟩
  ·cases e1
def lH:PV->PV->Option (Option PV)
 |.dk l,k=>(pZ k).map (bZ l)
 |.dt l,.tup ks=>(km ks).map (bZ l)
 |_,_=>none
theorem uo{F H:Hp}{a:Addr}{d k:PV}{y:V}{r:Option PV}(s:aR F H)(o:DLk K F H a d)(ry:Rep K F y k)(e:lH d k=some r) :
  ∃ o,vo H a y o/\(r=none->o=none)/\∀ p,r=some p->∃ v,o=some v/\Rep K F v p:=by
 have inv:(∃ l,d=.dk l)\/∃ l ks,d=.dt l/\k=.tup ks:=by
  clear o ry
  cases d<;>first|exact noS e|exact .inl ⟨_,rfl⟩|(cases k<;>first|exact noS e|exact .inr ⟨_,_,rfl,rfl⟩)
 rcases inv with⟨l,rfl⟩|⟨l,ks,rfl,rfl⟩
 ·obtain⟨xs,h1,h2,h3⟩:=o;have D:=fC.of (K:=K) (F:=F) h2 h3;have e:(pZ k).map (bZ l)=some r:=e;cases hk:pZ k with
  |none=>rw[hk] at e;cases e
  |some k'=>
   rw[hk] at e;cases e;cases p6 hk ry;exact⟨_,.inl ⟨_,_,h1,rfl,rfl⟩,λn=>D.none n,λp q=>D.some q⟩
 ·obtain⟨xs,h1,h2,h3⟩:=o;have D:=fC.of (K:=K) (F:=F) h2 h3;have e:(km ks).map (bZ l)=some r:=e;cases hk:km ks with
  |none=>rw[hk] at e;cases e
  |some k'=>
   rw[hk] at e;cases e;obtain⟨b,ys,rfl,hb,rr⟩:=Rep.lO ry;cases rC hk rr;exact⟨_,.inr ⟨_,_,_,h1,rfl,s _ _ hb,rfl⟩,λn=>D.none n,λp q=>D.some q⟩
def kE(d k:PV):Option (Res PV):=match lH d k with
 |some (some p)=>some (.ok p)
 |_=>none
def Qm:R2:=λx y H Q=>∃ a v,x=.ref a/\vo H a y (some v)/\Q v H
theorem Rj:R2M C (aD K) (aF K) (aF K) Qm kE:=by
 intro F H x y a b res Q s ha hb e P;obtain⟨_,ad,rfl,o⟩:=ha;unfold kE at e;split at e
 ·rename_i p hp;cases e;obtain⟨ov,g,_,g2⟩:=uo s o hb hp;obtain⟨v,rfl,rv⟩:=g2 p rfl;exact⟨ad,v,rfl,g,P v F H (Up.refl s) rv⟩
 ·cases e
def lZ(k d:PV):Option (Res PV):=(lH d k).map λr=>.ok (.bl (!r.isSome))
theorem JZ:R2M C (aF K) (aD K) (aF K) (λy x H Q=>∃ a o,x=.ref a/\vo H a y o/\Q (.bl (!o.isSome)) H) lZ:=by
 intro F H x y a b res Q s ha hb e P;obtain⟨_,ad,rfl,o⟩:=hb;unfold lZ at e;cases hp:lH b a with
 |none=>rw[hp] at e;cases e
 |some r=>
  rw[hp] at e;cases e;obtain⟨ov,g,g1,g2⟩:=uo s o ha hp;have es:ov.isSome=r.isSome:=by
   cases r with
   |none=>rw[g1 rfl];rfl
   |some p=>obtain⟨v,rfl,_⟩:=g2 p rfl;rfl
  exact⟨ad,ov,rfl,g,by rw[es];exact P _ F H (Up.refl s) .bl⟩
theorem DLk.isD{F H:Hp}{a:Addr}{p:PV}(o:DLk K F H a p)(d:p.isD=true):IsD H a:=by
 cases p with
 |dk l=>obtain⟨xs,e,_⟩:=o;exact .inl ⟨xs,e⟩
 |dt l=>obtain⟨xs,e,_⟩:=o;exact .inr ⟨xs,e⟩
 |_=>cases d
def xO(f g h:Fn PV):Fn PV:=λρ=>bnd (f ρ) λd=>bnd (g ρ) λk=>bnd (h ρ) λx=>(lH d k).map λr=>.ok (r.getD x)
theorem J0(ha:MJ K C (aD K) ta f)(hb:MJ K C (aF K) tb g)(hc:MJ K C (aF K) tc h):MJ K C (aF K) (BR ta tb tc) (xO f g h):=by
 intro F H σ ρ Q r R e P;refine ha.run R e P ?_;rintro d v F1 H1 hk u ⟨hd,a,ea,o⟩;subst ea;refine⟨a,rfl,o.isD hd,?_⟩;refine hb.run (R.up u) hk (P.later u) λk w F2 H2 hk2 u2 b=>?_;have u12:=u.trans u2;refine hc.run (R.up u12) hk2 (P.later u12) λx z F3 H3 hk3 u3 c=>?_;cases hp:lH d k with
 |none=>rw[hp] at hk3;cases hk3
 |some q=>
  rw[hp] at hk3;cases hk3;have u23:=u2.trans u3;obtain⟨ov,g,g1,g2⟩:=uo u3.fh (o.up u23.ff u23.hh) (Rep.up b u3.ff) hp;refine⟨ov,g,P _ F3 H3 (u12.trans u3) ?_⟩;cases q with
  |none=>rw[g1 rfl];exact c
  |some p=>obtain⟨v,rfl,rv⟩:=g2 p rfl;exact rv
def Cq:PV->PV->PV->Option PV
 |.dk l,k,p=>match pZ k with
  |some k=>if l.length<sizeLine then some (.dk (jd l k p)) else none
  |none=>none
 |.dt l,.tup ks,p=>match km ks with
  |some k=>if l.length<sizeLine then some (.dt (jd l k p)) else none
  |none=>none
 |_,_,_=>none
theorem Fd{F H:Hp}{a:Addr}{d k p d':PV}{y v:V}(s:aR F H)(o:Own K F H a d)(ry:Rep K F y k)(rv:Rep K F v p)(e:Cq d k p=some d') :
  ∃ ob,pR H a y v (upd H a ob)/\Own K F (upd H a ob) a d':=by
 have inv:(∃ l,d=.dk l)\/∃ l ks,d=.dt l/\k=.tup ks:=by
  clear o ry rv
  cases d<;>first|exact noS e|exact .inl ⟨_,rfl⟩|(cases k<;>first|exact noS e|exact .inr ⟨_,_,rfl,rfl⟩)
 rcases inv with⟨l,rfl⟩|⟨l,ks,rfl,rfl⟩
 ·obtain⟨xs,h1,h2,h3⟩:=o;have D:=fC.of (K:=K) (F:=F) h2 h3;have e:(match pZ k with|some k=>if l.length<sizeLine then some (PV.dk (jd l k p)) else none|none=>none)=some d':=e
  split at e
  case h_2=>cases e
  rename_i k' hk;split at e
  case isFalse=>cases e
  rename_i hz;cases e;cases p6 hk ry;have D':=D.put (k:=k') rv;exact⟨_,pR.k h1 (by rw[D.len];exact hz),_,aA,D'.keys,D'.at⟩
 ·obtain⟨xs,h1,h2,h3⟩:=o;have D:=fC.of (K:=K) (F:=F) h2 h3;have e:(match km ks with|some k=>if l.length<sizeLine then some (PV.dt (jd l k p)) else none|none=>none)=some d':=e
  split at e
  case h_2=>cases e
  rename_i k' hk;split at e
  case isFalse=>cases e
  rename_i hz;cases e;obtain⟨b,ys,rfl,hb,rr⟩:=Rep.lO ry;cases rC hk rr;have D':=D.put (k:=k') rv;exact⟨_,pR.t h1 (s _ _ hb) (by rw[D.len];exact hz),_,aA,D'.keys,D'.at⟩
def Fe(i:Nat)(fe fk:Fn PV):Sn:=λρ=>jE (fe ρ) λp=>match ownAt i ρ with
 |some d=>jE (fk ρ) λk=>match Cq d k p with
  |some d'=>some (.nx (ρ.set i (some (.ow d'))))
  |none=>none
 |none=>none
theorem Nq{i:Nat}{fe fk:Fn PV}(he:MJ K C (aF K) te fe)(hk:MJ K C (aF K) tb fk):MS K C (Qh (pJ i) tb te) (Fe i fe fk):=by
 intro F H σ ρ D o R e P;refine he.vz R e P λp v F1 H1 hk1 u a=>?_;split at hk1
 case h_2=>cases hk1
 rename_i d hd;obtain⟨b,g1,_⟩:=R.ow i _ (dh hd);refine⟨_,g1,hk.vz (R.up u) hk1 (P.up u.ff) λk w F2 H2 hk2 u2 rk=>?_⟩;split at hk2
 case h_2=>cases hk2
 rename_i d' hd';cases hk2;have R2:=R.up (u.trans u2);obtain⟨a',k1,k2,_⟩:=R2.ow i _ (dh hd);rw[g1] at k1;cases k1;obtain⟨ob,g,w'⟩:=Fd u2.fh k2 rk (Rep.up a u2.ff) hd';exact⟨b,_,rfl,g,P F2 _ σ (u.trans u2).ff (R2.write (dh hd) g1 w')⟩
theorem xP:MO K C Jp wu:=by
 intro F H σ ρ Q r R e P;cases e;intro p hp;exact P p F _ (Up.vq R.rb.sub hp) hp (R.rb.sub.free hp) ⟨[],aA,rfl,λj x p h=>by simp at h⟩
def asPair:PV->Option (PV×PV)
 |.tup [a,b]=>some (a,b)
 |_=>none
def fH:List PV->Option (List (PV×PV))
 |[]=>some []
 |p::l=>match asPair p,fH l with
  |some a,some r=>some (a::r)
  |_,_=>none
def dz(d:PV):List (PV×PV)->Option PV
 |[]=>some d
 |(k,p)::r=>match Cq d k p with
  |some d'=>dz d' r
  |none=>none
theorem o7{F H:Hp}(s:aR F H):∀ {l:List PV}{ps:List (PV×PV)}{xs:List V},fH l=some ps->bG K F xs l ->
  ∃ vs:List (V×V),xm K H xs vs/\vs.length=ps.length/\∀ (j:Nat) x p,vs[j]?=some x->ps[j]?=some p->Rep K F x.1 p.1/\Rep K F x.2 p.2
 |[],ps,xs,h,r=>by
  cases h;cases r.iC;exact⟨[],⟨rfl,λj x p e=>by simp at e⟩,rfl,λj x p e=>by simp at e⟩
 |p::l,ps,xs,h,r=>by
  unfold fH at h;split at h
  ·rename_i a r' h1 h2;cases h;obtain⟨v,ys,rfl,r1,r2⟩:=r.dB;obtain⟨vs,g1,g2,g3⟩:=o7 s h2 r2;unfold asPair at h1;split at h1
   ·rename_i pa pb;cases h1;obtain⟨b,zs,rfl,hb,rr⟩:=Rep.cg r1;obtain⟨v1,zs1,rfl,q1,rr⟩:=rr.dB;obtain⟨v2,zs2,rfl,q2,rr⟩:=rr.dB;cases rr.iC;refine⟨(v1,v2)::vs,⟨by simp[g1.1],λj x p e1 e2=>?_⟩,by simp[g2],λj x p e1 e2=>?_⟩
    ·cases j with
     |zero=>simp at e1 e2;subst e1 e2;exact⟨b,rfl,s.tup hb⟩
     |succ j=>exact g1.2 j x p (by simpa using e1) (by simpa using e2)
    ·cases j with
     |zero=>simp at e1 e2;subst e1 e2;exact⟨q1,q2⟩
     |succ j=>exact g3 j x p (by simpa using e1) (by simpa using e2)
   ·cases h1
  ·cases h
theorem o8{F:Hp}{a:Addr}{Q:Hp->Prop}:∀ {ps:List (PV×PV)}{vs:List (V×V)}{H:Hp}{d d':PV},aR F H->F a=none->Own K F H a d->vs.length=ps.length->(∀ (j:Nat) x p,vs[j]?=some x->ps[j]?=some p->Rep K F x.1 p.1/\Rep K F x.2 p.2) ->
  dz d ps=some d'->(∀ H',aR F H'->(∀ b,b≠a->H' b=H b)->Own K F H' a d'->Q H')->ww a vs H Q
 |[],vs,H,d,d',s,hn,o,hl,hr,e,q=>by
  cases vs with
  |nil=>cases e;exact q H s (λ_ _=>rfl) o
  |cons v vs=>simp at hl
 |(k,p)::ps,vs,H,d,d',s,hn,o,hl,hr,e,q=>by
  cases vs with
  |nil=>simp at hl
  |cons v vs=>
   unfold dz at e;split at e
   case h_2=>cases e
   rename_i d1 h1;obtain⟨r1,r2⟩:=hr 0 v (k,p) rfl rfl;obtain⟨ob,g,o1⟩:=Fd s o r1 r2 h1;refine⟨_,g,o8 (H:=upd H a ob) (λb u z=>by rw[aq (aW z hn)];exact s b u z) hn o1 (by simpa using hl) (λj x p e1 e2=>hr (j+1) x p (by simpa using e1) (by simpa using e2)) e λH' s' hb o'=>?_⟩
   exact q H' s' (λb hb'=>(hb b hb').trans (aq hb')) o'
def nM(d:PV)(l:List PV):Option (Res PV):=match fH l with
 |some ps=>(dz d ps).map .ok
 |none=>none
theorem Nr{n:HO}{d:PV}(hd:∀ F H a,H a=some n->Own K F H a d):R1O K C (aV K) (xM K n) (nM d):=by
 intro F H x l res Q s ha e P;obtain⟨b,xs,rfl,h1,r1⟩:=ha;unfold nM at e;split at e
 case h_2=>cases e
 rename_i ps hps;cases hd':dz d ps with
 |none=>rw[hd'] at e;cases e
 |some d'=>
  rw[hd'] at e;cases e;obtain⟨vs,g1,g2,g3⟩:=o7 (H:=H) s hps r1;refine⟨b,xs,vs,rfl,.inl h1,g1,λa na=>?_⟩;refine o8 (F:=F) (s.trans (d7 na)) (s.free na) (hd _ _ _ aA) g2 g3 hd' λH' s' hb o'=>?_;exact P a F H' ⟨aR.refl _,λc o q=>by rw[hb c (aW q na),aq (aW q na)];exact q,λ_ _ q=>.inl q,s'⟩ na (s.free na) o'
def xQ(d:PV):PV->Option (Res PV)
 |.tup l=>nM d l
 |_=>none
theorem Nt{n:HO}{d:PV}(hd:∀ F H a,H a=some n->Own K F H a d):R1O K C (aF K) (xM K n) (xQ d):=by
 intro F H x p res Q s ha e P
 match p,e with
 |.tup l,e=>
  obtain⟨b,xs,rfl,h1,r1⟩:=Rep.lO ha;have e:(match fH l with|some ps=>(dz d ps).map Res.ok|none=>none)=some res:=e
  split at e
  case h_2=>cases e
  rename_i ps hps;cases hd':dz d ps with
  |none=>rw[hd'] at e;cases e
  |some d'=>
   rw[hd'] at e;cases e;obtain⟨vs,g1,g2,g3⟩:=o7 (H:=H) s hps r1;refine⟨b,xs,vs,rfl,.inr (s _ _ h1),g1,λa na=>?_⟩;refine o8 (F:=F) (s.trans (d7 na)) (s.free na) (hd _ _ _ aA) g2 g3 hd' λH' s' hb o'=>?_;exact P a F H' ⟨aR.refl _,λc o q=>by rw[hb c (aW q na),aq (aW q na)];exact q,λ_ _ q=>.inl q,s'⟩ na (s.free na) o'
theorem Ff{F H:Hp}{a:Addr}(h:H a=some (.dK [])):Own K F H a (.dk []):=⟨[],h,rfl,λj x p e=>by simp at e⟩
end
section
variable{K:Frag}{C:Cg}{ta tb:TE}{f g:Fn PV}
theorem sY(ha:MJ K C (aD K) ta f)(hb:MJ K C (aF K) tb g):MJ K C (aF K) (Jm ta tb) (m2 kE f g):=aC (r2:=Qm) aD.up Rj ha hb
def xR:PV->Option (Res PV)
 |.dk l=>some (.ok (.int l.length))
 |_=>none
theorem J1:R1M C (aD K) (aF K) (λxs H Q=>∃ p kvs,xs=[.ref p]/\Rd H p (.dK kvs)/\Q (.int kvs.length) H) xR:=by
 intro F H x a res Q s ha e P
 match a,e with
 |.dk l,e=>
  cases e;obtain⟨_,ad,rfl,xs,h1,h2,h3⟩:=ha;have D:=fC.of (K:=K) (F:=F) h2 h3;rw[<-D.len] at P;exact⟨ad,xs,rfl,h1,P _ F H (Up.refl s) .int⟩
end
section
variable{X:Cx}
theorem Hl{k:Nat}(hr:dN k X.A):OpR X (compareOp .NotIn) (λy x H Q=>∃ a o,x=.ref a/\vo H a y o/\Q (.bl (!o.isSome)) H):=by
 intro pins s σ H x y v u Q I rx ry h;obtain⟨a,o,rfl,g,q⟩:=h;cases ry;exact Mz (Ei hr) I g rx λs3 I3=>⟨.bl (!o.isSome),H,I3,rfl,q⟩
theorem wy:fL X (.builtin "len") (λxs H Q=>∃ p kvs,xs=[.ref p]/\Rd H p (.dK kvs)/\Q (.int kvs.length) H):=by
 intro pins s σ H xs us Q I rv h;obtain⟨p,kvs,rfl,e,q⟩:=h;obtain⟨u,rfl,ru⟩:=rv.one;cases ru;exact Te I e λt s' I'=>⟨.int kvs.length,H,I',⟨t,rfl⟩,q⟩
theorem uq{k:Nat}(hr:dN k X.A)(hc:X.calm=true):fL X (.type "dict") (xM X.K (.dK [])):=Cm hc hr.units (.inl rfl)
end
section
variable{X:Cx}{k:Nat}
theorem p7{X:Cx}{k:Nat}{o i:Expr}{pos:Pos}{td ty:TE}(hr:dN k X.A)(ho:PE X o td)(hi:PE X i ty)(hs:QT i):PE X (.Subscript o i pos) (Jm td ty):=MK (Ei hr) ho hi hs
theorem Hm{X:Cx}{k:Nat}{o e f:Expr}{apos cpos:Pos}{td ty tx:TE}(hr:dN k X.A)(ho:PE X o td)(he:PE X e ty)(hf:PE X f tx)(m:M2 X o "get" apos e f cpos):PE X (.Call (.Attribute o "get" apos) [e,f] [] cpos) (BR td ty tx):=Jr (Ei hr) ho he hf m
end
section
def CR(a b c:Int):Prop:=0<=a/\a<2^30/\-(2^30)<=b/\b<2^30/\0<c/\c<2^30
noncomputable instance(a b c:Int):Decidable (CR a b c):=inferInstanceAs (Decidable (_/\_))
theorem qX{acc:Array Value}{n:Nat}(h:ItemsOf (λi v=>∃ t,v=.int (0+(i:Nat)*1) t) acc n):Vals ((List.range n).map λi=>V.int (i:Nat)) acc.toList:=by
 obtain⟨hs,hv⟩:=h;have go:∀ (l:List Value) (k:Nat),(∀ (i:Nat) v,l[i]?=some v->∃ t,v=Value.int (((k+i:Nat):Int)) t)->Vals ((List.range' k l.length).map λi=>V.int (i:Nat)) l:=by
  intro l;induction l with
  |nil=>intro k _;exact .nil
  |cons v l ih=>
   intro k h;rw[ZaN,List.range'_succ,Zas];obtain⟨t,e⟩:=h 0 v rfl;refine .cons ⟨t,by rw[e];rfl⟩ (ih (k+1) λi v hv=>?_)
   obtain⟨t,e⟩:=h (i+1) v (by simpa using hv)
   exact⟨t,by rw[e];congr 2;omega⟩
 have:=go acc.toList 0 λi v e=>by
  obtain⟨t,e2⟩:=hv i v (by simpa using e)
  exact⟨t,by rw[e2];congr 1;omega⟩
 rwa [ZaC,hs,<-List.range_eq_range'] at this
end
def New(H F' H':Hp)(S:Addr->Prop):Prop:=∀ b,S b->H b=none/\F' b=none/\∃ o,H' b=some o/\∀ ys,o≠.tup ys
def MD(K:Frag)(C:Cg)(te:TE)(f:Fn PV):Prop:=
 ∀ F H σ ρ Q r,RE K C.toCf F H σ ρ->f ρ=some r->Pr C F (λp=>∀ v F' H' S,Up F H F' H'->Dp K F' H' S v p->New H F' H' S->Q v H') r->te σ H Q
def spD(K:Frag)(XR:Hp->Value->Option Addr->PV->Prop)(m:List PV->Option (Res PV)):Sp:=λvs H Q E=>∃ ps F r,aR F H/\bG K F vs ps/\m ps=some r/\match r with
 |.ok p=>∀ v F' H' S,Up F H F' H'->Dp K F' H' S v p->New H F' H' S->Q v H'
 |.ex z=>∀ e d F' H',Up F H F' H'->XR F' e d z->E e d H'
section
variable{K:Frag}{C:Cg}{te:TE}{F F1 H H1:Hp}{σ:St}{ρ:Rho}{D:Ends}{t u:TS}{f g:Sn}{o:Out}{S:Addr->Prop}{v:V}{p:PV}
def xT(F H:Hp)(S:Addr->Prop):Hp:=λb=>@ite _ (S b\/∃ ys,H b=some (.tup ys)) (Classical.propDecidable _) (H b) (F b)
theorem kI{b:Addr}(h:S b\/∃ ys,H b=some (.tup ys)):xT F H S b=H b:=@if_pos _ (Classical.propDecidable _) h _ _ _
theorem jF{b:Addr}(h:¬(S b\/∃ ys,H b=some (.tup ys))):xT F H S b=F b:=@if_neg _ (Classical.propDecidable _) h _ _ _
theorem nO(s:aR F H):aR F (xT F H S):=λb o e=>by
 by_cases h:S b\/∃ ys,H b=some (.tup ys)
 ·rw[kI h];exact s b o e
 ·rw[jF h];exact e
theorem zE(s:aR F H):aR (xT F H S) H:=λb o e=>by
 by_cases h:S b\/∃ ys,H b=some (.tup ys)
 ·rw[kI h] at e;exact e
 ·rw[jF h] at e;exact s b o e
theorem zF(d:Dp K F H S v p)(s:aR F H):Rep K (xT F H S) v p:=
 d.seen (nO s) (λb o q e=>by rw[kI (.inl q)];exact e) λb ys e=>by rw[kI (.inr ⟨ys,e⟩)];exact e
theorem Nu(u:Up F H F1 H1)(n:New H F1 H1 S):Up F H (xT F1 H1 S) H1 where
 ff:=u.ff.trans (nO u.fh)
 hh:=u.hh
 fr:=λb o e=>by
  by_cases h:S b\/∃ ys,H1 b=some (.tup ys)
  ·rw[kI h] at e;rcases h with h|⟨ys,h⟩
   ·exact .inr (.inl (n b h).1)
   ·rw[h] at e;cases e;exact .inr (.inr ⟨ys,rfl⟩)
  ·rw[jF h] at e;exact u.fr b o e
 fh:=zE u.fh
theorem Nv{t:TA}{fe:Fn (List PV)}{m:List PV->Option (Res PV)}(h:MA K C t fe):MD K C (vM (spD K C.XR m) [] C.E t) (bY m fe):=by
 intro F H σ ρ Q r R e P;refine h.run R e P λl xs F1 H1 hk u a=>?_;refine⟨l,F1,r,u.fh,by rw[ZaS];exact a,hk,?_⟩
 cases r with
 |ok p=>exact λv F' H' S u' d n=>P v F' H' S (u.trans u') d λb q=>⟨u.hh.free (n b q).1,(n b q).2⟩
 |ex z=>exact λe d F' H' u' x=>P e d F' H' (u.trans u').ff (R.rb.up (u.trans u')) x
def Dps(K:Frag)(F H:Hp)(S:Nat->Addr->Prop)(xs:List V)(l:List PV):Prop:=
 xs.length=l.length/\(∀ i j b,S i b->S j b->i=j)/\∀ (j:Nat) x p,xs[j]?=some x->l[j]?=some p->Dp K F H (S j) x p
def vB(i:Nat)(ρ:Rho):Option PV:=match ρ[i]? with
 |some (some (.dp p))=>some p
 |_=>none
theorem gF{i:Nat}{p:PV}(h:vB i ρ=some p):ρ[i]?=some (some (.dp p)):=by
 unfold vB at h;split at h
 ·rename_i q hq;cases h;exact hq
 ·cases h
theorem RE.Uv{C:Cf}(R:RE K C F H σ ρ)(i:Nat)(u:Up F H F1 H1)(d:Dp K F1 H1 S v p)(n:New H F1 H1 S)(nw:C.nw):RE K C F1 H1 (σ.set i (some v)) (ρ.set i (some (.dp p))) where
 rb:=R.rb.up u
 len:=by simp[R.len]
 sh:=λj q e=>by
  rcases get_set e with⟨e1,e2⟩|⟨e1,e2⟩
  ·cases e2
  ·obtain⟨w,e3,e4⟩:=(R.up u).sh j q e2;exact⟨w,by rw[Zav e1];exact e3,e4⟩
 ow:=λj q e=>by
  rcases get_set e with⟨e1,e2⟩|⟨e1,e2⟩
  ·cases e2
  ·obtain⟨w,e3,e4⟩:=(R.up u).ow j q e2;exact⟨w,by rw[Zav e1];exact e3,e4⟩
 dis:=λj k q q' b e e' f f'=>by
  rcases get_set e with⟨e1,e2⟩|⟨e1,e2⟩
  ·cases e2
  ·rcases get_set e' with⟨e1',e2'⟩|⟨e1',e2'⟩
   ·cases e2'
   ·rw[Zav e1] at f;rw[Zav e1'] at f';exact R.dis j k q q' b e2 e2' f f'
 dd:=by
  obtain⟨P,d0⟩:=R.dd;have d1:=d0.up u;refine⟨λj b=>if j=i then S b else P j b,λj b q=>?_,λj k b a1 a2=>?_,λj k q b z e f=>?_,λj q e=>?_⟩
  ·by_cases hj:j=i
   ·simp only[hj,Zb3] at q;obtain⟨c1,c2,c3⟩:=n b q;exact⟨c2,c3,nw,R.rb.zc c1⟩
   ·simp only[hj,ZbJ] at q;exact d1.own j b q
  ·by_cases hj:j=i<;>by_cases hk:k=i
   ·rw[hj,hk]
   ·simp only[hj,hk,Zb3,ZbJ] at a1 a2;obtain⟨_,⟨o,c,_⟩,_⟩:=d0.own k b a2;rw[(n b a1).1] at c;cases c
   ·simp only[hj,hk,Zb3,ZbJ] at a1 a2;obtain⟨_,⟨o,c,_⟩,_⟩:=d0.own j b a1;rw[(n b a2).1] at c;cases c
   ·simp only[hj,hk,ZbJ] at a1 a2;exact d0.dis j k b a1 a2
  ·rcases get_set e with⟨e1,e2⟩|⟨e1,e2⟩
   ·cases e2
   ·rw[Zav e1] at f;by_cases hj:j=i
    ·simp only[hj,Zb3] at z;exact R.apart (n b z).1 k q e2 f
    ·simp only[hj,ZbJ] at z;exact d0.ow j k q b z e2 f
  ·rcases get_set e with⟨e1,e2⟩|⟨e1,e2⟩
   ·subst e1;cases e2;have:=cD e;refine⟨v,by rw[Za8 (by rw[R.len];simpa using this)],?_⟩
    simp only[Zb3];exact d
   ·obtain⟨w,e3,e4⟩:=d1.dp j q e2;refine⟨w,by rw[Zav e1];exact e3,?_⟩
    simp only[Zbs e1,ZbJ];exact e4
def zG(i:Nat)(fe:Fn PV):Sn:=λρ=>jE (fe ρ) λp=>some (.nx (ρ.set i (some (.dp p))))
theorem Fg{i:Nat}{fe:Fn PV}(nw:C.nw)(h:MD K C te fe):MS K C (Gy te (tY i)) (zG i fe):=by
 intro F H σ ρ D o R e P;rcases dC e with⟨z,e1,rfl⟩|⟨p,e1,hk⟩
 ·exact h F H σ ρ _ _ R e1 P
 ·cases hk;exact h F H σ ρ _ _ R e1 λv F1 H1 S u d n=>P F1 H1 _ u.ff (R.Uv i u d n nw)
theorem RE.TJ{C:Cf}(R:RE K C F H σ ρ){i:Nat}(e:ρ[i]?=some (some (.dp p))):∃ S v,σ[i]?=some (some v)/\Dp K F H S v p/\(∀ b,S b->F b=none/\(∃ o,H b=some o/\∀ ys,o≠.tup ys)/\C.H0 b=none)/\RE K C (xT F H S) H σ (ρ.set i (some (.sh p))):=by
 obtain⟨P,d⟩:=R.dd;obtain⟨v,e1,e2⟩:=d.dp i p e;have li:=cD e;have sf:aR F (xT F H (P i)):=nO R.rb.sub;refine⟨P i,v,e1,e2,λb q=>⟨(d.own i b q).1,(d.own i b q).2.1,(d.own i b q).2.2.2⟩,⟨⟨zE R.rb.sub,R.rb.keep,λb o q=>?_,R.rb.ios⟩,by simp[R.len],λj q f=>?_,λj q f=>?_,λj k q q' b f f' g g'=>?_,?_⟩⟩
 ·by_cases h:P i b\/∃ ys,H b=some (.tup ys)
  ·rw[kI h] at q;rcases h with h|⟨ys,h⟩
   ·exact .inr (.inl (d.own i b h).2.2.2)
   ·rw[h] at q;cases q;exact .inr (.inr ⟨ys,rfl⟩)
  ·rw[jF h] at q;exact R.rb.new b o q
 ·rcases get_set f with⟨f1,f2⟩|⟨f1,f2⟩
  ·subst f1;cases f2;exact⟨v,e1,zF e2 R.rb.sub⟩
  ·obtain⟨w,g1,g2⟩:=R.sh j q f2;exact⟨w,g1,g2.up sf⟩
 ·rcases get_set f with⟨f1,f2⟩|⟨f1,f2⟩
  ·cases f2
  ·obtain⟨b,g1,g2,g3,g4⟩:=R.ow j q f2;refine⟨b,g1,g2.up sf λ_ z=>z,?_,g4⟩;rw[jF]
   ·exact g3
   ·rintro(z|⟨ys,z⟩)
    ·exact d.ow i j q b z f2 g1
    ·exact g2.En z
 ·rcases get_set f with⟨f1,f2⟩|⟨f1,f2⟩
  ·cases f2
  ·rcases get_set f' with⟨f1',f2'⟩|⟨f1',f2'⟩
   ·cases f2'
   ·exact R.dis j k q q' b f2 f2' g g'
 ·refine⟨λj b=>j≠i/\P j b,λj b z=>?_,λj k b a1 a2=>d.dis j k b a1.2 a2.2,λj k q b z f g=>?_,λj q f=>?_⟩
  ·obtain⟨c1,c2,c3⟩:=d.own j b z.2;refine⟨?_,c2,c3⟩;rw[jF]
   ·exact c1
   ·rintro(y|⟨ys,y⟩)
    ·exact z.1 (d.dis j i b z.2 y)
    ·obtain⟨o,c4,c5⟩:=c2;rw[y] at c4;cases c4;exact c5 ys rfl
  ·rcases get_set f with⟨f1,f2⟩|⟨f1,f2⟩
   ·cases f2
   ·exact d.ow j k q b z.2 f2 g
  ·rcases get_set f with⟨f1,f2⟩|⟨f1,f2⟩
   ·cases f2
   ·obtain⟨w,g1,g2⟩:=d.dp j q f2;refine⟨w,g1,(g2.up sf (λ_ _ _ q=>q) λ_ _ q=>q).mono λb z=>⟨Zbs f1,z⟩⟩
def rD(i:Nat):Sn:=λρ=>match vB i ρ with
 |some p=>some (.rd p)
 |none=>none
theorem J2(i:Nat):MS K C (IK (pJ i)) (rD i):=by
 intro F H σ ρ D o R e P;unfold rD at e;split at e
 ·rename_i p hp;cases e;obtain⟨S,v,e1,e2,e3,_⟩:=R.TJ (gF hp);exact⟨_,e1,P v F H S (aR.refl _) R.rb e2 e3⟩
 ·cases e
end
section
variable{K:Frag}{C:Cg}{F H:Hp}{σ:St}{ρ:Rho}{f g:Sn}{o:Out}{S:Addr->Prop}{v:V}{p:PV}
theorem Dp.cj{l:List PV}(d:Dp K F H S v (.lst l)):∃ (T:Nat->Addr->Prop) (a:Addr) (xs:List V),v=.ref a/\H a=some (.lst xs)/\S a/\(∀ j b,T j b->S b/\b≠a)/\Dps K F H T xs l:=by
 cases d with
 |fr h st=>cases st
 |lst h hp hs dj hl hr=>exact⟨_,_,_,rfl,h,hp,hs,hl,dj,hr⟩
theorem RE.J3{C:Cf}(R:RE K C F H σ ρ){P:Nat->Addr->Prop}(d:RD K C F H σ ρ P){i:Nat}(e:ρ[i]?=some (some (.dp p)))(e1:σ[i]?=some (some v)){a:Addr}{ob:HO}(ha:P i a)(ho:∀ ys,ob≠.tup ys){p':PV}{S':Addr->Prop}
  (hd:Dp K F (upd H a ob) S' v p')(hS:∀ b,S' b->P i b\/(F b=none/\(∃ o,H b=some o/\∀ ys,o≠.tup ys)/\C.nw/\C.H0 b=none/\(∀ j,¬P j b)/\∀ (j:Nat) q,ρ[j]?=some (some (.ow q))->σ[j]?≠some (some (.ref b)))) :
  RE K C F (upd H a ob) σ (ρ.set i (some (.dp p'))):=by
 obtain⟨c1,⟨oa,c2,c3⟩,c4,c5⟩:=d.own i a ha;have hio:¬C.io a:=λz=>(R.rb.ios a z).2 c5;refine⟨⟨λb o q=>by rw[aq (λz=>by subst z;rw[c1] at q;cases q)];exact R.rb.sub b o q,λb o q z=>by rw[aq (λy=>by subst y;rw[c5] at q;cases q)];exact R.rb.keep b o q z,R.rb.new,λb z=>?_⟩,by simp[R.len],λj q f=>?_,λj q f=>?_,λj k q q' b f f' g g'=>?_,?_⟩
 ·refine⟨?_,(R.rb.ios b z).2⟩;rw[aq (λy=>by subst y;exact hio z)];exact(R.rb.ios b z).1
 ·rcases get_set f with⟨f1,f2⟩|⟨f1,f2⟩
  ·cases f2
  ·exact R.sh j q f2
 ·rcases get_set f with⟨f1,f2⟩|⟨f1,f2⟩
  ·cases f2
  ·obtain⟨b,g1,g2,g3,g4⟩:=R.ow j q f2;have nb:b≠a:=λz=>by subst z;exact d.ow i j q b ha f2 g1
   refine⟨b,g1,?_,g3,g4⟩;cases q with
   |lst l=>obtain⟨xs,k1,k2⟩:=g2;exact⟨xs,by rw[aq nb];exact k1,k2⟩
   |dk l=>obtain⟨xs,k1,k2⟩:=g2;exact⟨xs,by rw[aq nb];exact k1,k2⟩
   |dt l=>obtain⟨xs,k1,k2⟩:=g2;exact⟨xs,by rw[aq nb];exact k1,k2⟩
   |_=>exact g2.elim
 ·rcases get_set f with⟨f1,f2⟩|⟨f1,f2⟩
  ·cases f2
  ·rcases get_set f' with⟨f1',f2'⟩|⟨f1',f2'⟩
   ·cases f2'
   ·exact R.dis j k q q' b f2 f2' g g'
 ·have up:∀ b o,H b=some o->(∀ ys,o≠.tup ys)->∃ o',upd H a ob b=some o'/\∀ ys,o'≠.tup ys:=λb o q z=>by
   by_cases h:b=a
   ·subst h;exact⟨ob,aA,ho⟩
   ·exact⟨o,by rw[aq h];exact q,z⟩
  refine⟨λj b=>if j=i then S' b else P j b,λj b z=>?_,λj k b a1 a2=>?_,λj k q b z f g=>?_,λj q f=>?_⟩
  ·by_cases hj:j=i
   ·simp only[hj,Zb3] at z;rcases hS b z with w|⟨w1,⟨o,w2,w2'⟩,w3,w4,_⟩
    ·obtain⟨k1,⟨o,k2,k3⟩,k4⟩:=d.own i b w;exact⟨k1,up b o k2 k3,k4⟩
    ·exact⟨w1,up b o w2 w2',w3,w4⟩
   ·simp only[hj,ZbJ] at z;obtain⟨k1,⟨o,k2,k3⟩,k4⟩:=d.own j b z;exact⟨k1,up b o k2 k3,k4⟩
  ·by_cases hj:j=i<;>by_cases hk:k=i
   ·rw[hj,hk]
   ·simp only[hj,hk,Zb3,ZbJ] at a1 a2;rcases hS b a1 with w|⟨_,_,_,_,w,_⟩
    ·rw[hj];exact d.dis i k b w a2
    ·exact absurd a2 (w k)
   ·simp only[hj,hk,Zb3,ZbJ] at a1 a2;rcases hS b a2 with w|⟨_,_,_,_,w,_⟩
    ·rw[hk];exact d.dis j i b a1 w
    ·exact absurd a1 (w j)
   ·simp only[hj,hk,ZbJ] at a1 a2;exact d.dis j k b a1 a2
  ·rcases get_set f with⟨f1,f2⟩|⟨f1,f2⟩
   ·cases f2
   ·by_cases hj:j=i
    ·simp only[hj,Zb3] at z;rcases hS b z with w|⟨_,_,_,_,_,w⟩
     ·exact d.ow i k q b w f2 g
     ·exact w k q f2 g
    ·simp only[hj,ZbJ] at z;exact d.ow j k q b z f2 g
  ·rcases get_set f with⟨f1,f2⟩|⟨f1,f2⟩
   ·subst f1;cases f2;refine⟨v,e1,?_⟩;simp only[Zb3];exact hd
   ·obtain⟨w,g1,g2⟩:=d.dp j q f2;refine⟨w,g1,?_⟩;simp only[Zbs f1,ZbJ];refine g2.up (aR.refl _) (λb o z q=>?_) λb ys q=>?_
    ·rw[aq (λy=>by subst y;exact f1 (d.dis i j b ha z))];exact q
    ·rw[aq (λy=>by subst y;rw[c2] at q;cases q;exact c3 ys rfl)];exact q
end
section
variable{K:Frag}{F H:Hp}{o:Out}{S:Addr->Prop}{v:V}{p:PV}
theorem Dp.snoc{b:Addr}{T:Nat->Addr->Prop}{ys:List V}{row:List PV}{q:PV}(e:H b=some (.lst ys))(sb:S b)(ht:∀ j c,T j c->S c/\c≠b)(d:Dps K F H T ys row)(r:Rep K F v q)(st:q.still=true):Dp K F (upd H b (.lst (ys++[v]))) S (.ref b) (.lst (row++[q])):=by
 refine .lst (S:=λj c=>j<ys.length/\T j c) aA sb (λj c z=>ht j c z.2) (λi j c z z'=>d.2.1 i j c z.2 z'.2) (by simp[d.1]) λj x p e1 e2=>?_
 by_cases hj:j<ys.length
 ·rw[ZaF hj] at e1;rw[ZaF (by rw[<-d.1];exact hj)] at e2
  refine((d.2.2 j x p e1 e2).up (aR.refl _) (λc o z e=>by rw[aq (ht j c z).2];exact e) λc zs e'=>?_).mono λc z=>⟨hj,z⟩
  rw[aq (λw=>by subst w;rw[e] at e';cases e')];exact e'
 ·rw[ZaG (by omega)] at e1
  rw[ZaG (by rw[<-d.1];omega)] at e2
  have ej:j=ys.length:=by
   have:=cD e1;simp at this;omega
  rw[ej,Nat.sub_self] at e1;rw[ej,d.1,Nat.sub_self] at e2;cases e1;cases e2;exact .fr r st
end
def J4:Option Out->Option (Res PV)
 |some (.rd p)=>some (.ok p)
 |some (.ex z)=>some (.ex z)
 |_=>none
section
variable{K:Frag}{XR:Hp->Value->Option Addr->PV->Prop}{N:List Str}{vs:List V}{H:Hp}{Q:VK}{E:XK}{t:TS}{b:Sn}{m:List PV->Option (Res PV)}
theorem Ny{k n:Nat}(hk:N.length=k+n)(hm:∀ ps r,m ps=some r->ps.length=k/\J4 (b (startR ps n))=some r)(h:spD K XR0 m vs H Q E)(hS:∀ (io:Addr->Prop) (H0 F0:Hp),(∀ a,¬io a)->MS K (C0 io H0 F0) t b) :
  t { nx:=λ_ H'=>Q .non H',rt:=Q } (start N vs) H:=by
 obtain⟨ps,F,r,s,rp,e,P⟩:=h;obtain⟨hl,e⟩:=hm ps r e;have R:=uh (E:=E0) (N:=N) (n:=n) s rp (by rw[rp.1,hl];exact hk)
 have up:∀ {F' H':Hp},aR F F'->RB ⟨λ_=>False,True,H,F,E0⟩ F' H'->Up F H F' H':=λs' rb=>⟨s',λc o q=>rb.keep c o q id,rb.new,rb.sub⟩;have M:=hS (λ_=>False) H F (λ_ h=>h);cases ho:b (startR ps n) with
 |none=>rw[ho] at e;cases e
 |some o=>
  rw[ho] at e;refine M F H _ _ _ o R ho ?_;cases o with
  |rd p=>cases e;exact λv F' H' S s' rb d n=>P v F' H' S (up s' rb) d λb q=>⟨(n b q).2.2,(n b q).1,(n b q).2.1⟩
  |ex z=>exact λ_ _ _ _ _ _ x=>x.elim
  |nx ρ=>cases e
  |rt p=>cases e
  |ro p=>cases e
  |bk ρ=>cases e
  |ct ρ=>cases e
theorem Nz(h:spD K XR m vs H Q E){k:Nat}(hm:∀ ps r,m ps=some r->ps.length=k):vs.length=k:=by
 obtain⟨ps,F,r,s,rp,e,P⟩:=h;rw[rp.1];exact hm ps r e
end
end L2.MP
namespace L2
open PySem PySem.Spec PyProof PyProof.Rows
namespace MP
end MP
def jn:HO->Prop
 |.dK _=>True
 |.dT _=>True
 |_=>False
section
variable{X:Cx}{pins:List (Addr×Obj)}{σ:St}{H:Hp}{s:Shared}{a:Addr}{u:HO}{raw:Obj}
theorem jn.mut(hu:jn u)(e:H a=some u):Mut (H a):=by
 rw[e];cases u<;>first|trivial|exact hu.elim
theorem Rm(I:Inv X pins σ H s)(e:H a=some u)(hu:jn u):∃ raw,s.heap.get? a=some raw:=by
 have:=I.hok a u e;cases u with
 |dK kvs=>obtain⟨_,_,_,_,o,es,ep,h1,_⟩:=this;exact⟨o,h1⟩
 |dT kvs=>obtain⟨_,_,_,_,o,es,ep,h1,_⟩:=this;exact⟨o,h1⟩
 |_=>exact hu.elim
theorem Inv.hold(I:Inv X pins σ H s)(e:H a=some u)(hu:jn u):∃ raw,s.heap.get? a=some raw/\Inv X pins σ (upd H a (.frz raw u)) s:=by
 obtain⟨raw,hr⟩:=Rm I e hu;refine⟨raw,hr,I.write (t':=s.toks) (h':=s.heap) (hu.mut e) (.inl rfl) (λb o _ q=>q) ⟨raw,hr⟩ ⟨hr,?_⟩⟩;refine(I.hok a u e).stay (λb o _ q=>q) (λb q=>?_) λb xs q=>?_
 ·rw[aq (λz=>by subst z;rw[e] at q;cases q;exact hu)];exact q
 ·rw[aq (λz=>by subst z;rw[e] at q;cases q;exact hu)];exact q
theorem Inv.loose(I:Inv X pins σ H s)(e:H a=some (.frz raw u))(hu:jn u)(h0:∀ o v,X.H₀ a≠some (.frz o v)):Inv X pins σ (upd H a u) s where
 ok:=I.ok
 os:=I.os
 bare:=I.bare
 base:={
  keep:=I.base.keep
  slot:=I.base.slot
  free:=λb o q n hx=>by
   have:=I.base.free b o q n hx;rw[aq (λz=>by subst z;rw[e] at this;cases this)];exact this
  there:=I.base.there
  tups:=λb xs q=>by
   have:=I.base.tups b xs q;rw[aq (λz=>by subst z;rw[e] at this;cases this)];exact this
  frzs:=λb o v q=>by
   rw[aq (λz=>by subst z;exact h0 o v q)];exact I.base.frzs b o v q
  tbls:=λb ps q=>by
   obtain⟨more,r⟩:=I.base.tbls b ps q;exact⟨more,by rw[aq (λz=>by subst z;rw[e] at r;cases r)];exact r⟩ }
 loc:=I.loc
 cell:=I.cell
 free:=by rw[aq (λz=>by have:=I.free;rw[z,e] at this;cases this)];exact I.free
 freeC:=λx c q=>by
  have:=I.freeC x c q;rw[aq (λz=>by subst z;rw[e] at this;cases this)];exact this
 pin:=λp hp=>by
  obtain⟨p1,p2,p3⟩:=I.pin p hp;exact⟨p1,by rw[aq (λz=>by rw[z,e] at p2;cases p2)];exact p2,p3⟩
 hok:=λb o q=>by
  have ho:∀ c y,H c=some (.own y)->upd H a u c=some (.own y):=λc y r=>by rw[aq (λz=>by subst z;rw[e] at r;cases r)];exact r
  have ht:∀ c xs,H c=some (.tup xs)->upd H a u c=some (.tup xs):=λc xs r=>by rw[aq (λz=>by subst z;rw[e] at r;cases r)];exact r
  by_cases hb:b=a
  ·subst hb;rw[aA] at q;cases q;exact(I.hok b _ e).2.stay (λ_ _ _ q=>q) (λc r=>ho c b r) ht
  ·rw[aq hb] at q;exact(I.hok b o q).stay (λ_ _ _ q=>q) (λc r=>ho c b r) ht
 len:=I.len
def Ends.loose(D:Ends)(a:Addr)(raw:Obj)(u:HO):Ends where
 nx:=λσ H=>H a=some (.frz raw u)/\D.nx σ (upd H a u)
 bk:=λσ H=>H a=some (.frz raw u)/\D.bk σ (upd H a u)
 ct:=λσ H=>H a=some (.frz raw u)/\D.ct σ (upd H a u)
 rt:=λv H=>H a=some (.frz raw u)/\D.rt v (upd H a u)
def J5(i:Nat)(t:TS):TS:=λD σ H=>∃ a u,σ[i]?=some (some (.ref a))/\jn u/\(((∃ raw,H a=some (.frz raw u))/\t D σ H)\/(H a=some u/\∀ raw,t (D.loose a raw u) σ (upd H a (.frz raw u))))
theorem NB{st:Stmt}{t:TS}(i:Nat)(h:PS X st t):PS X st (J5 i t):=by
 intro pins s σ H D I q;obtain⟨a,u,_,hu,⟨_,q⟩|⟨e,q⟩⟩:=q
 ·exact h pins s σ H D I q
 ·have h0:∀ o v,X.H₀ a≠some (.frz o v):=λo v z=>by
   have:=I.base.frzs a o v z;rw[e] at this;cases this;exact hu
  obtain⟨raw,_,I2⟩:=I.hold e hu;refine thn (h pins s σ _ _ I2 (q raw)) λf s' r=>?_;cases f with
  |next=>obtain⟨σ',H',I',e',r⟩:=r;exact⟨σ',_,I'.loose e' hu h0,r⟩
  |brk=>obtain⟨σ',H',I',e',r⟩:=r;exact⟨σ',_,I'.loose e' hu h0,r⟩
  |cont=>obtain⟨σ',H',I',e',r⟩:=r;exact⟨σ',_,I'.loose e' hu h0,r⟩
  |ret w=>obtain⟨v,σ',H',I',rv,e',r⟩:=r;exact⟨v,σ',_,I'.loose e' hu h0,rv,r⟩
end
def Itd(a:Addr)(raw:Obj)(kvs:List (Key×V)):It:=
 ⟨λi H=>H a=some (.frz raw (.dK kvs))/\i<kvs.length,λi H x H'=>H'=H/\∃ kv,kvs[i]?=some kv/\x=kV kv.1,λi H=>H a=some (.frz raw (.dK kvs))/\i=kvs.length⟩
theorem xU{P:Program}{w:World}{k:Key}{u:Value}(h:(bx P w).is k u=true):RelV (kV k) u:=by
 rcases cC h with⟨i,t,rfl,rfl⟩|⟨x,t,rfl,rfl⟩
 ·exact⟨t,rfl⟩
 ·exact⟨t,rfl⟩
theorem nP{P:Program}{w:World}{H:Hp}{h:Heap}{a:Addr}{raw:Obj}{kvs:List (Key×V)}(ok:HOk P w H h)(e:H a=some (.frz raw (.dK kvs))){es:Array DictEntry}{ep:Nat}(hd:raw.data=.dict es ep):(a==sysModules)=false/\∃ vs,KV kvs vs/\h.DictAt (bx P w) a vs ep:=by
 obtain⟨hr,_,hs,vs,kv,o,es',ep',h1,h2,h3,h4⟩:=(show cL P w H h a (.frz raw (.dK kvs)) from ok a _ e);rw[hr] at h1;cases h1;rw[hd] at h3;cases h3;exact⟨hs,vs,kv,raw,es,hr,h2,hd,h4⟩
theorem Hn{P:Program}{w:World}{K:Frag}{tg:Expr}(a it:Addr)(raw:Obj)(kvs:List (Key×V)){es:Array DictEntry}{ep:Nat}(hd:raw.data=.dict es ep) :
  Turn P w K tg (Itd a raw kvs) [it] it (λi h=>h.IsKeyIter it a i kvs.length ep) where
 mem:=by simp
 obj:=λi h st b hb=>by
  have e:b=it:=by simpa using hb
  subst e;obtain⟨o,e,c,d⟩:=st;exact⟨o,e,λv z=>by rw[d] at z;cases z⟩
 keep:=λi h h' st k=>st.at λo q=>k it (by simp) o q
 item:=by
  intro X hP hw hK hc i pins s σ H E I hf st hg;subst hP hw hK;obtain⟨e,hi⟩:=hg;obtain⟨f0,f1,f2,f3,f4,f5⟩:=hf it (by simp)
  obtain⟨_,vs,kv,dd⟩:=nP I.hok e hd;have hl:=kv.length;have hne:a≠it:=λz=>by subst z;rw[e] at f0;cases f0
  have W:=Walks.dictKeys (prog:=X.prog) (w:=X.w) (A:=X.A) (knd:=bx X.prog X.w) (I.ok.hd hc) it a hne vs ep;refine W.item i s _ _ (by omega) ⟨by rw[<-hl];exact st,dd⟩ λv h' tk hv st' kk=>?_
  obtain⟨k,x,hx,hk⟩:=hv;have I1:Inv X pins σ H { s with heap:=h',toks:=tk }:=I.turned (λb o hb e=>kk b o (by simpa using hb) e) f0 f1 f3 f4 f5
  obtain⟨o,eo,cc,dd'⟩:=id st'.1;obtain⟨p,hp⟩:∃ p,kvs[i]?=some p:=⟨_,Zaa hi⟩;have ek:p.1=k:=by
   have h1:(kvs.map (·.1))[i]?=some p.1:=by rw[Zae,hp];rfl
   have h2:(vs.map (·.1))[i]?=some k:=by rw[Zae,hx];rfl
   rw[kv.keys,h2] at h1;exact(Zah h1).symm
  refine⟨_,rfl,yP (s:={ s with heap:=h',toks:=tk }) eo cc dd' (by decide) ⟨kV p.1,H,I1,by rw[ek];exact xU hk,⟨rfl,p,hp,rfl⟩,by rw[hl];exact st'.1,λb hb=>(hf b hb).1⟩⟩
 done:=by
  intro X hP hw hK hc i pins s σ H E I hf st hg;subst hP hw hK;obtain⟨e,hi⟩:=hg;obtain⟨f0,f1,f2,f3,f4,f5⟩:=hf it (by simp)
  obtain⟨_,vs,kv,dd⟩:=nP I.hok e hd;have hl:=kv.length;have hne:a≠it:=λz=>by subst z;rw[e] at f0;cases f0
  have W:=Walks.dictKeys (prog:=X.prog) (w:=X.w) (A:=X.A) (knd:=bx X.prog X.w) (I.ok.hd hc) it a hne vs ep;subst hi;refine W.done s _ _ ⟨by rw[<-hl];exact st,dd⟩ λh' tk kk=>⟨rfl,I.turned (λb o hb e=>kk b o (by simpa using hb) e) f0 f1 f3 f4 f5⟩
 self:=λA i s Q E st h=>wpAny_pyIter_keyiter st h
def Qn(tl:TE):TI:=λσ H R=>tl σ H λx H1=>∃ a raw kvs,x=.ref a/\H1 a=some (.frz raw (.dK kvs))/\R (Itd a raw kvs) H1
theorem NK{X:Cx}{tg l:Expr}{tl:TE}(hl:PE X l tl):PI X tg l (Qn tl):=by
 intro pins s σ H R I h;refine thn (hl pins s σ H _ I h) ?_;rintro v s1 ⟨x,H1,I1,r1,q1⟩;obtain⟨a,raw,kvs,e,ha,q⟩:=q1;subst e;cases r1;obtain⟨es,ep,hd⟩:∃ es ep,raw.data=.dict es ep:=by
  obtain⟨hr,_,hs,vs,kv,o,es',ep',h1,h2,h3,h4⟩:=(show cL X.prog X.w H1 s1.heap a (.frz raw (.dK kvs)) from I1.hok a _ ha);rw[hr] at h1;cases h1;exact⟨_,_,h3⟩
 obtain⟨hs,vs,kv,dd⟩:=nP I1.hok ha hd;refine wpAny_pyIter_dict hs dd ?_;refine⟨s1.heap.objs.size,[s1.heap.objs.size],_,_,H1,rfl,I1.kept (t':=s1.toks) λb o e=>Zac _ e,Hn a _ raw kvs hd,⟨_,Zam _ rfl,rfl,by rw[kv.length];rfl⟩,λb hb=>?_,q⟩
 have e:b=s1.heap.objs.size:=by simpa using hb
 subst e;exact I1.tZ (Zaf _) (I1.hok.fresh (Zaf _))
end L2
namespace L2.MP
open PySem PySem.Spec PyProof.Rows
structure Sw(F F':Hp)(a:Addr)(u:HO):Prop where
 ne:∀ b,b≠a->F' b=F b
 l:Rd F a u
 r:Rd F' a u
 d:jn u
section
variable{K:Frag}{F F' H H':Hp}{a:Addr}{u:HO}{v:V}{p:PV}
theorem Sw.other(w:Sw F F' a u){b:Addr}{o:HO}(e:F b=some o)(h1:¬jn o)(h2:∀ raw x,jn x->o≠.frz raw x):F' b=some o:=by
 rw[w.ne b λz=>?_]
 ·exact e
 ·subst z;rcases w.l with q|⟨raw,q⟩
  ·rw[e] at q;cases q;exact h1 w.d
  ·rw[e] at q;cases q;exact h2 raw u w.d rfl
theorem Sw.rd(w:Sw F F' a u){b:Addr}{o:HO}(h:Rd F b o)(ho:jn o):Rd F' b o:=by
 by_cases hb:b=a
 ·subst hb;have:o=u:=by
   rcases h with h|⟨r,h⟩<;>rcases w.l with q|⟨r',q⟩<;>rw[h] at q<;>cases q
   ·rfl
   ·exact ho.elim
   ·exact w.d.elim
   ·rfl
  rw[this];exact w.r
 ·rcases h with h|⟨r,h⟩
  ·exact .inl (by rw[w.ne b hb];exact h)
  ·exact .inr ⟨r,by rw[w.ne b hb];exact h⟩
theorem Sw.sq(w:Sw F F' a u){b:Addr}{xs:List V}(h:SqL K F b xs):SqL K F' b xs:=by
 rcases h with(h|⟨o,h⟩)|h
 ·exact .inl (.inl (w.other h (λz=>z) λ_ _ _ z=>by cases z))
 ·exact .inl (.inr ⟨o,w.other h (λz=>z) λ_ x hx z=>by cases z;exact hx⟩)
 ·exact .inr h
theorem Rep.sw(w:Sw F F' a u)(h:Rep K F v p):Rep K F' v p:=by
 induction h with
 |non=>exact .non
 |bl=>exact .bl
 |int=>exact .int
 |str=>exact .str
 |ty=>exact .ty
 |tup h hl _ ih=>exact .tup (w.other h (λz=>z) λ_ _ _ z=>by cases z) hl ih
 |lst h hl _ ih=>exact .lst (w.sq h) hl ih
 |dk h hl _ ih=>exact .dk (w.rd h trivial) hl ih
 |dt h hl _ ih=>exact .dt (w.rd h trivial) hl ih
 |exc nm h hd hl _ ih=>exact .exc nm (w.other h (λz=>z) λ_ _ _ z=>by cases z) (w.other hd (λz=>z) λ_ _ _ z=>by cases z) hl ih
 |exc0 nm h=>exact .exc0 nm (w.other h (λz=>z) λ_ _ _ z=>by cases z)
theorem bG.sw{xs:List V}{l:List PV}(w:Sw F F' a u)(h:bG K F xs l):bG K F' xs l:=⟨h.1,λj x p a b=>(h.2 j x p a b).sw w⟩
theorem Own.sw{b:Addr}(w:Sw F F' a u)(e:H' b=H b)(h:Own K F H b p):Own K F' H' b p:=by
 cases p with
 |lst l=>obtain⟨xs,q,r⟩:=h;exact⟨xs,by rw[e];exact q,r.sw w⟩
 |dk l=>obtain⟨xs,q,r,s⟩:=h;exact⟨xs,by rw[e];exact q,r,λj x p a b=>(s j x p a b).sw w⟩
 |dt l=>obtain⟨xs,q,r,s⟩:=h;exact⟨xs,by rw[e];exact q,r,λj x p a b=>(s j x p a b).sw w⟩
 |_=>exact h.elim
theorem Dp.sw{P:Addr->Prop}(w:Sw F F' a u)(wH:Sw H H' a u)(h:Dp K F H P v p):(∀ b,P b->b≠a)->Dp K F' H' P v p:=by
 induction h with
 |fr h st=>exact λ_=>.fr (h.sw w) st
 |lst h hp hs dj hl _ ih=>exact λn=>.lst (by rw[wH.ne _ (n _ hp)];exact h) hp hs dj hl λj x p e1 e2=>ih j x p e1 e2 λb q=>n b (hs j b q).1
 |tup h hs dj hl _ ih=>exact λn=>.tup (wH.other h (λz=>z) λ_ _ _ z=>by cases z) hs dj hl λj x p e1 e2=>ih j x p e1 e2 λb q=>n b (hs j b q)
 |dk h hp hs dj hl _ ih=>exact λn=>.dk (by rw[wH.ne _ (n _ hp)];exact h) hp hs dj hl λj x p e1 e2=>ih j x p e1 e2 λb q=>n b (hs j b q).1
 |dt h hp hs dj hl _ ih=>exact λn=>.dt (by rw[wH.ne _ (n _ hp)];exact h) hp hs dj hl λj x p e1 e2=>ih j x p e1 e2 λb q=>n b (hs j b q).1
theorem RE.sw{C C':Cf}{σ:St}{ρ:Rho}(w:Sw F F' a u)(wH:Sw H H' a u)(fa:F a≠none)(hio:C'.io=C.io)(hnw:C'.nw=C.nw)(h0:∀ b,b≠a->C'.H0 b=C.H0 b)(rb:RB C' F' H')(R:RE K C F H σ ρ):RE K C' F' H' σ ρ where
 rb:=rb
 len:=R.len
 sh:=λi p e=>let⟨v,e1,r⟩:=R.sh i p e;⟨v,e1,r.sw w⟩
 ow:=λi p e=>by
  obtain⟨b,e1,e2,e3,e4⟩:=R.ow i p e;have nb:b≠a:=λz=>by subst z;exact fa e3
  exact⟨b,e1,e2.sw w (wH.ne b nb),by rw[w.ne b nb];exact e3,by rw[hio,hnw,h0 b nb];exact e4⟩
 dis:=R.dis
 dd:=by
  obtain⟨P,d⟩:=R.dd;have nb:∀ i b,P i b->b≠a:=λi b q z=>by subst z;exact fa (d.own i b q).1
  refine⟨P,λi b q=>?_,d.dis,d.ow,λi p e=>?_⟩
  ·obtain⟨c1,⟨o,c2,c3⟩,c4,c5⟩:=d.own i b q;exact⟨by rw[w.ne b (nb i b q)];exact c1,⟨o,by rw[wH.ne b (nb i b q)];exact c2,c3⟩,by rw[hnw];exact c4,by rw[h0 b (nb i b q)];exact c5⟩
  ·obtain⟨v,e1,e2⟩:=d.dp i p e;exact⟨v,e1,e2.sw w wH (nb i)⟩
end
def cG(G:Hp)(a:Addr)(raw:Obj)(u:HO):Hp:=λb=>@ite _ (b=a/\G a=some u) (Classical.propDecidable _) (some (.frz raw u)) (G b)
theorem dI{G:Hp}{a b:Addr}{raw:Obj}{u:HO}(h:b≠a):cG G a raw u b=G b:=@if_neg _ (Classical.propDecidable _) (λz=>h z.1) _ _ _
theorem rE{G:Hp}{a:Addr}{raw:Obj}{u:HO}(h:G a=some u):cG G a raw u a=some (.frz raw u):=@if_pos _ (Classical.propDecidable _) ⟨rfl,h⟩ _ _ _
theorem o9{G:Hp}{a:Addr}{raw:Obj}{u:HO}(h:G a≠some u):cG G a raw u a=G a:=@if_neg _ (Classical.propDecidable _) (λz=>h z.2) _ _ _
def TQ(F:Hp)(σ:St)(i:Nat):Prop:=∃ a raw u,σ[i]?=some (some (.ref a))/\F a=some (.frz raw u)/\jn u
def MSh(K:Frag)(C:Cg)(i:Nat)(t:TS)(f:Sn):Prop:=∀ F H σ ρ D o,RE K C.toCf F H σ ρ->TQ F σ i->f ρ=some o->PO' K C F D o->t D σ H
def ur(i:Nat)(f:Sn):Sn:=λρ=>match ρ[i]? with
 |some (some (.sh p))=>if p.isD=true then(match f ρ with
  |some (.rd _)=>none
  |x=>x) else none
 |_=>none
section
variable{K:Frag}{t:TS}{f:Sn}
theorem NP{io:Addr->Prop}{H0 F0 F H:Hp}{σ:St}{ρ:Rho}{a:Addr}{u:HO}{raw:Obj}(R:RE K (C0 io H0 F0).toCf F H σ ρ)(fa:F a=some u)(hu:jn u) :
  RE K (C0 io (cG H0 a raw u) (cG F0 a raw u)).toCf (upd F a (.frz raw u)) (upd H a (.frz raw u)) σ ρ/\H a=some u:=by
 have ha:=R.rb.sub _ _ fa;have w:Sw F (upd F a (.frz raw u)) a u:=⟨λb hb=>aq hb,.inl fa,.inr ⟨raw,aA⟩,hu⟩;have wH:Sw H (upd H a (.frz raw u)) a u:=⟨λb hb=>aq hb,.inl ha,.inr ⟨raw,aA⟩,hu⟩;have nt:∀ ys,u≠.tup ys:=λys z=>by subst z;exact hu
 have rb2:RB (C0 io (cG H0 a raw u) (cG F0 a raw u)).toCf (upd F a (.frz raw u)) (upd H a (.frz raw u)):=by
  refine⟨λb o q=>?_,λb o q n=>?_,λb o q=>?_,λb q=>?_⟩
  ·by_cases hb:b=a
   ·subst hb;rw[aA] at q ⊢;exact q
   ·rw[aq hb] at q ⊢;exact R.rb.sub b o q
  ·by_cases hb:b=a
   ·subst hb;rw[aA];by_cases hh:H0 b=some u
    ·have q:cG H0 b raw u b=some o:=q;rw[rE hh] at q;exact q
    ·have q:cG H0 b raw u b=some o:=q;rw[o9 hh] at q;have:=R.rb.keep b o q n;rw[ha] at this;exact absurd (q.trans this.symm) hh
   ·have q:cG H0 a raw u b=some o:=q;rw[dI hb] at q;rw[aq hb];exact R.rb.keep b o q n
  ·by_cases hb:b=a
   ·subst hb;rw[aA] at q;cases q;rcases R.rb.new b u fa with z|z|⟨ys,z⟩
    ·exact .inl (rE z)
    ·refine .inr (.inl ?_);show cG H0 b raw u b=none
     rw[o9 (by rw[show H0 b=none from z];intro y;cases y)];exact z
    ·exact absurd z (nt ys)
   ·rw[aq hb] at q;rcases R.rb.new b o q with z|z|z
    ·exact .inl ((dI hb).trans z)
    ·exact .inr (.inl ((dI hb).trans z))
    ·exact .inr (.inr z)
  ·obtain⟨q1,q2⟩:=R.rb.ios b q;refine⟨?_,?_⟩
   ·by_cases hb:b=a
    ·subst hb;rw[aA];intro z;cases z
    ·rw[aq hb];exact q1
   ·show cG H0 a raw u b≠none
    by_cases hb:b=a
    ·subst hb;by_cases hh:H0 b=some u
     ·rw[rE hh];intro z;cases z
     ·rw[o9 hh];exact q2
    ·rw[dI hb];exact q2
 have R2:RE K (C0 io (cG H0 a raw u) (cG F0 a raw u)).toCf (upd F a (.frz raw u)) (upd H a (.frz raw u)) σ ρ:=RE.sw (C:=(C0 io H0 F0).toCf) w wH (by rw[fa];intro z;cases z) rfl rfl (λb hb=>dI hb) rb2 R
 exact⟨R2,ha⟩
theorem J6{io:Addr->Prop}{H0 F0:Hp}{Pc:Hp->Prop}(i:Nat)(hP:Pc H0)(hh:∀ H0 a raw u,jn u->Pc H0->Pc (cG H0 a raw u))(h:∀ H0 F0,Pc H0->MSh K (C0 io H0 F0) i t f):MS K (C0 io H0 F0) (J5 i t) (ur i f):=by
 intro F H σ ρ D o R e P;unfold ur at e;split at e
 case h_2=>cases e
 rename_i p hp;split at e
 case isFalse=>cases e
 rename_i hd;obtain⟨e',nrd⟩:f ρ=some o/\∀ q,o≠.rd q:=by
  split at e
  ·cases e
  ·rename_i x hx;exact⟨e,λq z=>by subst z;exact hx q e⟩
 obtain⟨v,ev,rv⟩:=R.sh i p hp;obtain⟨a,u,rfl,rd,hu⟩:∃ a u,v=.ref a/\Rd F a u/\jn u:=by
  cases rv with
  |dk h=>exact⟨_,_,rfl,h,trivial⟩
  |dt h=>exact⟨_,_,rfl,h,trivial⟩
  |_=>cases hd
 refine⟨a,u,ev,hu,?_⟩;rcases rd with fa|⟨raw,fa⟩
 case inr=>exact .inl ⟨⟨raw,R.rb.sub _ _ fa⟩,h H0 F0 hP F H σ ρ D o R ⟨a,raw,u,ev,fa,hu⟩ e' P⟩
 refine .inr ⟨R.rb.sub _ _ fa,λraw=>?_⟩;have ha:=R.rb.sub _ _ fa;have w:Sw F (upd F a (.frz raw u)) a u:=⟨λb hb=>aq hb,.inl fa,.inr ⟨raw,aA⟩,hu⟩;have wH:Sw H (upd H a (.frz raw u)) a u:=⟨λb hb=>aq hb,.inl ha,.inr ⟨raw,aA⟩,hu⟩;have nt:∀ ys,u≠.tup ys:=λys z=>by subst z;exact hu
 obtain⟨R2,_⟩:=NP (raw:=raw) R fa hu;have back:∀ {F3 H3:Hp},aR (upd F a (.frz raw u)) F3->RB (C0 io (cG H0 a raw u) (cG F0 a raw u)).toCf F3 H3->H3 a=some (.frz raw u)/\Sw F3 (upd F3 a u) a u/\Sw H3 (upd H3 a u) a u/\aR F (upd F3 a u)/\RB (C0 io H0 F0).toCf (upd F3 a u) (upd H3 a u):=by
  intro F3 H3 s3 rb3;have f3:F3 a=some (.frz raw u):=s3 _ _ aA;have h3:=rb3.sub _ _ f3;refine⟨h3,⟨λb hb=>aq hb,.inr ⟨raw,f3⟩,.inl aA,hu⟩,⟨λb hb=>aq hb,.inr ⟨raw,h3⟩,.inl aA,hu⟩,λb o q=>?_,λb o q=>?_,λb o q n=>?_,λb o q=>?_,λb q=>?_⟩
  ·by_cases hb:b=a
   ·subst hb;rw[aA,<-q,fa]
   ·rw[aq hb];exact s3 b o (by rw[aq hb];exact q)
  ·by_cases hb:b=a
   ·subst hb;rw[aA] at q ⊢;exact q
   ·rw[aq hb] at q ⊢;exact rb3.sub b o q
  ·by_cases hb:b=a
   ·subst hb;have:=R.rb.keep b o q n;rw[ha] at this;rw[aA];exact this
   ·rw[aq hb];exact rb3.keep b o ((dI hb).trans q) n
  ·by_cases hb:b=a
   ·subst hb;rw[aA] at q;cases q;exact R.rb.new b u fa
   ·rw[aq hb] at q;rcases rb3.new b o q with z|z|z
    ·exact .inl ((dI hb).symm.trans z)
    ·exact .inr (.inl ((dI hb).symm.trans z))
    ·exact .inr (.inr z)
  ·refine⟨?_,(R.rb.ios b q).2⟩;by_cases hb:b=a
   ·subst hb;rw[aA];intro z;cases z
   ·rw[aq hb];exact(rb3.ios b q).1
 have backR:∀ {F3 H3:Hp}{σ3:St}{ρ3:Rho},aR (upd F a (.frz raw u)) F3->RE K (C0 io (cG H0 a raw u) (cG F0 a raw u)).toCf F3 H3 σ3 ρ3->H3 a=some (.frz raw u)/\aR F (upd F3 a u)/\RE K (C0 io H0 F0).toCf (upd F3 a u) (upd H3 a u) σ3 ρ3:=by
  intro F3 H3 σ3 ρ3 s3 R3;obtain⟨b1,b2,b3,b4,b5⟩:=back s3 R3.rb;have f3:F3 a=some (.frz raw u):=s3 _ _ aA;exact⟨b1,b4,RE.sw (C:=(C0 io (cG H0 a raw u) (cG F0 a raw u)).toCf) b2 b3 (by rw[f3];intro z;cases z) rfl rfl (λb hb=>(dI hb).symm) b5 R3⟩
 refine h (cG H0 a raw u) (cG F0 a raw u) (hh _ _ _ _ hu hP) _ _ σ ρ _ o R2 ⟨a,raw,u,ev,aA,hu⟩ e' ?_;cases o with
 |nx ρ3=>exact λF3 H3 σ3 s3 R3=>let⟨b1,b2,b3⟩:=backR s3 R3;⟨b1,P _ _ _ b2 b3⟩
 |bk ρ3=>exact λF3 H3 σ3 s3 R3=>let⟨b1,b2,b3⟩:=backR s3 R3;⟨b1,P _ _ _ b2 b3⟩
 |ct ρ3=>exact λF3 H3 σ3 s3 R3=>let⟨b1,b2,b3⟩:=backR s3 R3;⟨b1,P _ _ _ b2 b3⟩
 |rt q=>exact λv F3 H3 s3 rb3 r=>let⟨b1,b2,b3,b4,b5⟩:=back s3 rb3;⟨b1,P v _ _ b4 b5 (r.sw b2)⟩
 |ro q=>
  intro b F3 H3 s3 rb3 ow nb n0;obtain⟨b1,b2,b3,b4,b5⟩:=back s3 rb3;have f3:F3 a=some (.frz raw u):=s3 _ _ aA;have hb:b≠a:=λz=>by subst z;rw[f3] at nb;cases nb
  exact⟨b1,P b _ _ b4 b5 (ow.sw b2 (b3.ne b hb)) (by rw[aq hb];exact nb) ((dI hb).symm.trans n0)⟩
 |rd q=>exact absurd rfl (nrd q)
 |ex z=>exact λ_ _ _ _ _ _ x=>x.elim
theorem NQ{io:Addr->Prop}{H0 F0:Hp}(i:Nat)(h:∀ H0 F0,MSh K (C0 io H0 F0) i t f):MS K (C0 io H0 F0) (J5 i t) (ur i f):=J6 (Pc:=λ_=>True) i trivial (λ_ _ _ _ _ _=>trivial) λH0 F0 _=>h H0 F0
end
def ut(l:List (Key×PV)):List PV:=l.map λkv=>Cp kv.1
def xV:PV->Option (Res (List PV))
 |.dk l=>some (.ok (ut l))
 |_=>none
def TV(K:Frag)(C:Cg)(i:Nat)(wi:TI)(f:Fn (List PV)):Prop:=
 ∀ F H σ ρ R' r,RE K C.toCf F H σ ρ->TQ F σ i->f ρ=some r->Pr C F (λl=>∀ J F' H',Up F H F' H'->ItR K J F' l->R' J H') r->wi σ H R'
section
variable{K:Frag}{C:Cg}{t:TS}{f:Sn}{F H:Hp}{σ:St}{ρ:Rho}{D:Ends}{o:Out}
theorem xW{k:Key}:Rep K F (kV k) (Cp k):=by
 cases k with
 |inl i=>exact .int
 |inr z=>exact .str
theorem J7(i:Nat):TV K C i (Qn (pJ i)) (m1 xV (mV i)):=by
 intro F H σ ρ R' r R hh e P;rcases dU e with⟨z,e1,rfl⟩|⟨p,e1,hk⟩
 ·unfold mV at e1;split at e1
  ·cases e1
  ·cases e1
 obtain⟨a,raw,u,ev,fa,hu⟩:=hh;have hp:ρ[i]?=some (some (.sh p)):=by
  unfold mV at e1;split at e1
  ·rename_i q hq;cases e1;exact hq
  ·cases e1
 match p,hk with
 |.dk l,hk=>
  cases hk;obtain⟨v,ev',rv⟩:=R.sh i _ hp;rw[ev] at ev';cases ev';cases rv with
  |@dk _ xs _ h hl hr=>
   have hx:u=.dK xs:=by
    rcases h with h|⟨o,h⟩
    ·rw[fa] at h;cases h
    ·rw[fa] at h;cases h;rfl
   subst hx;have len:xs.length=l.length:=by have:=ZbI List.length hl;simpa using this
   refine⟨_,ev,a,raw,xs,rfl,R.rb.sub _ _ fa,P _ F H (Up.refl R.rb.sub) ⟨λF' H' s s'=>?_,λj F' H' hj s s'=>?_,λj F' H' x H'' hj s s' y=>?_⟩⟩
   ·exact⟨s' _ _ (s _ _ fa),by unfold ut;rw[List.length_map];exact len.symm⟩
   ·refine⟨s' _ _ (s _ _ fa),?_⟩;unfold ut at hj;rw[List.length_map] at hj;omega
   ·obtain⟨rfl,kv,hkv,rfl⟩:=y;have hl2:(l.map (·.1))[j]?=some kv.1:=by rw[<-hl,Zae,hkv];rfl
    refine⟨F',Cp kv.1,Up.refl s',?_,xW⟩;unfold ut;rw[Zae] at hl2 ⊢;cases q:l[j]? with
    |none=>rw[q] at hl2;cases hl2
    |some w=>
     rw[q] at hl2;show some (Cp w.1)=some (Cp kv.1)
     rw[show w.1=kv.1 from Zah hl2]
theorem NT{i:Nat}{wi:TI}{it:Fn (List PV)}{gt:TG}{tg:PV->Rho->Option Rho}(hi:TV K C i wi it)(hg:MG K C gt tg)(hb:MS K C t f):MSh K C i (QD wi gt t) (kh it tg f):=by
 intro F H σ ρ D o R hh e P;rcases dC e with⟨z,e1,rfl⟩|⟨l,e1,hk⟩
 ·exact hi F H σ ρ _ _ R hh e1 P
 ·exact hi F H σ ρ _ _ R hh e1 λJ F' H' u hJ=>vY hg hb hJ (R.up u) hk (P.up u.ff)
end
end L2.MP
namespace L2
open PySem PySem.Spec PyProof PyProof.Rows
def srt(ns:List Int):List Int:=ns.mergeSort λa b=>decide (a<=b)
theorem gK(ns:List Int):(srt ns).Perm ns:=List.mergeSort_perm ns _
namespace MP
end MP
def Itp(a:Addr)(raw:Obj)(kvs:List (Key×V)):It:=
 ⟨λi H=>H a=some (.frz raw (.dK kvs))/\i<kvs.length,λi H x H'=>∃ p kv,H p=none/\kvs[i]?=some kv/\x=.ref p/\H'=upd H p (.tup [kV kv.1,kv.2]),λi H=>H a=some (.frz raw (.dK kvs))/\i=kvs.length⟩
theorem J8{P:Program}{w:World}{kvs:List (Key×V)}{vs:List (Key×Value)}(r:KV kvs vs){i:Nat}{p:Key×V}(e:kvs[i]?=some p):∃ u,vs[i]?=some (p.1,u)/\RelV p.2 u:=by
 induction r generalizing i with
 |nil=>cases i<;>cases e
 |@cons a b as bs h t ih=>
  cases i with
  |zero=>
   cases e;obtain⟨b1,b2⟩:=b;obtain⟨h1,h2⟩:=h;exact⟨b2,by rw[List.getElem?_cons_zero,h1],h2⟩
  |succ i=>rw[List.getElem?_cons_succ] at e;obtain⟨u,q1,q2⟩:=ih e;exact⟨u,by rw[List.getElem?_cons_succ];exact q1,q2⟩
theorem Cr{P:Program}{w:World}{K:Frag}{elts:List Expr}{x1:Nat}{pos:Pos}(a it:Addr)(raw:Obj)(kvs:List (Key×V)){es:Array DictEntry}{ep:Nat}(hd:raw.data=.dict es ep) :
  Turn P w K (.Tuple elts x1 pos) (Itp a raw kvs) [it] it (λi h=>∃ ok ov,IsItemIter h it a i kvs.length ep ok ov) where
 mem:=by simp
 obj:=λi h st b hb=>by
  have e:b=it:=by simpa using hb
  subst e;obtain⟨ok,ov,e⟩:=st;exact⟨_,e,λv z=>by cases z⟩
 keep:=λi h h' st k=>by
  obtain⟨ok,ov,e⟩:=st;exact⟨ok,ov,k it (by simp) _ e⟩
 item:=by
  intro X hP hw hK hc i pins s σ H E I hf st hg;subst hP hw hK;obtain⟨e,hi⟩:=hg;obtain⟨ok,ov,ei⟩:=st;obtain⟨f0,f1,f2,f3,f4,f5⟩:=hf it (by simp)
  obtain⟨_,vs,kv,dd⟩:=nP I.hok e hd;have hl:=kv.length;obtain⟨p,hp⟩:∃ p,kvs[i]?=some p:=⟨_,Zaa hi⟩;obtain⟨u,hu,ru⟩:=J8 (P:=X.prog) (w:=X.w) kv hp;refine wpAny_pyNext_items_item (knd:=bx X.prog X.w) (by rw[<-hl];exact ei) dd hu λkey h3 hk e3 n3 sz3 k3=>?_
  refine⟨_,rfl,wpAny_letOwnedTupleGo_items e3 λh4 e4 s4=>?_⟩;have ilt:it<s.heap.objs.size:=Zaq ei;have hT2:IsPair h4 s.heap.objs.size key u:=(s4.2 _ (Zb1 ilt)).trans n3;refine⟨.ref s.heap.objs.size,upd H s.heap.objs.size (.tup [kV p.1,p.2]),I.vR (ch:=[it]) (λb' o hb q=>?_) hf (Zaf _) ⟨by show 2<=sizeLine;decide,[key,u],.cons (xU hk) (.cons ru .nil),fu.mk hT2⟩,rfl,⟨_,p,I.hok.fresh (Zaf _),hp,rfl,rfl⟩,⟨key,u,by rw[hl];exact e4⟩,λb' hb=>?_⟩
  ·have q1:b'≠it:=λe=>hb (by simp[e])
   exact(s4.2 b' q1).trans (k3 b' o q1 q)
  ·have e:b'=it:=by simpa using hb
   subst e;rw[aq (Zaz ilt)];exact f0
 done:=by
  intro X hP hw hK hc i pins s σ H E I hf st hg;subst hP hw hK;obtain⟨e,hi⟩:=hg;obtain⟨ok,ov,ei⟩:=st;obtain⟨_,vs,kv,dd⟩:=nP I.hok e hd;have hl:=kv.length;refine wpAny_pyNext_items_end (knd:=bx X.prog X.w) (I.ok.hd hc) (by rw[<-hl];exact ei) dd (by rw[List.getElem?_eq_none_iff];omega) λh' k=>⟨rfl,?_⟩
  exact I.nA (t':=s.toks) (ch:=[it]) (λb' o hb q=>k b' o (λe=>hb (by simp[e])) q) hf
 self:=λA i s Q E st h=>by
  obtain⟨ok,ov,e⟩:=st;exact PySem.W.kcp_self e h
def J9(tl:TE):TI:=λσ H R=>tl σ H λx H1=>∃ a raw kvs,x=.ref a/\H1 a=some (.frz raw (.dK kvs))/\R (Itp a raw kvs) H1
theorem Ka{X:Cx}{o:Expr}{apos cpos tpos:Pos}{elts:List Expr}{x1:Nat}{tl:TE}(hl:PE X o tl)(hbase:attributeBase o "items" X.env (eval o X.env)=eval o X.env:=by rfl)(hline:(apos.endLine==cpos.line)=true:=by rfl) :
  PI X (.Tuple elts x1 tpos) (.Call (.Attribute o "items" apos) [] [] cpos) (J9 tl):=by
 intro pins s σ H R I h;refine wpAny_Call_method (T:="dict") (id:="dict.items") hbase rfl hline ZbP ZbQ PySem.F.type_dict_items (thn (hl pins s σ H _ I h) ?_);rintro u s1 ⟨x,H1,I1,rx,q1⟩;obtain⟨a,raw,kvs,e,ha,q⟩:=q1;subst e;obtain rfl:u=Value.ref a:=rx;obtain⟨t1,t2,_⟩:=xn I1 (.inl ⟨kvs,.inr ⟨raw,ha⟩⟩);refine⟨t1,t2,?_⟩;obtain⟨es,ep,hd⟩:∃ es ep,raw.data=.dict es ep:=by
  obtain⟨hr,_,hs,vs,kv,o,es',ep',h1,h2,h3,h4⟩:=(show cL X.prog X.w H1 s1.heap a (.frz raw (.dK kvs)) from I1.hok a _ ha);rw[hr] at h1;cases h1;exact⟨_,_,h3⟩
 obtain⟨hs,vs,kv,dd⟩:=nP I1.hok ha hd;show wpAny _ _ (callWith cpos (.builtin "dict.items") [.ref a] [] []) _ _ s1
 refine method_meetsIn ZbQ PySem.F.entry_dict_items rfl (PySem.evalArgs_none ⟨rfl,t1,PySem.F.args_dict_items_1 _,_,meets_dict_items (bx X.prog X.w) a hs,⟨vs,Heap.DictAt.dictOf dd⟩,?_⟩);have hsz:(s1.heap.push { cls:=.type "dict_items",data:=.fields #[.ref a] }).objs.size=s1.heap.objs.size+1:=ZbW ..;refine wpAny_pyIter_items (knd:=bx X.prog X.w) (d:=a) (kvs:=vs) (ep:=ep) ⟨_,Zam _ rfl,rfl,rfl⟩ (dd.push _) ?_;refine⟨(s1.heap.push { cls:=.type "dict_items",data:=.fields #[.ref a] }).objs.size,[(s1.heap.push { cls:=.type "dict_items",data:=.fields #[.ref a] }).objs.size],_,_,H1,rfl,I1.kept (t':=s1.toks) λb o e=>Zac _ (Zac _ e),Cr a _ raw kvs hd,⟨.none,.none,?_⟩,λb hb=>?_,q⟩
 ·rw[kv.length];exact Zam _ rfl
 ·have e:b=s1.heap.objs.size+1:=by simpa[hsz] using hb
  subst e;exact I1.tZ (Nat.le_succ _) (I1.hok.fresh (Nat.le_succ _))
namespace MP
def fV(l:List (Key×PV)):List PV:=l.map λkv=>.tup [Cp kv.1,kv.2]
def uv:PV->Option (Res (List PV))
 |.dk l=>some (.ok (fV l))
 |_=>none
end MP
theorem xX{h:Heap}{vs:List Value}{out:Array Value}{b:Addr}{o:Obj}(hb:h.get? b=some o):(sortedHeap (h.push (seqObj "list" vs.toArray 0)) h.objs.size vs out).get? b=some o:=by
 have hlt:b<h.objs.size:=Zaq hb;rw[sortedHeap_old (Zaz hlt) (by rw[size_push'];exact Zbr hlt)]
 exact Zac _ hb
namespace MP
end MP
end L2
namespace L2.MP
open PySem PySem.Spec PyProof.Rows
section
variable{K:Frag}{C:Cg}{F H:Hp}{σ:St}{ρ:Rho}{D:Ends}{t:TS}{f:Sn}{o:Out}{S:Addr->Prop}{v:V}{p:PV}
def uw(i:Nat)(f:Sn):Sn:=λρ=>match vB i ρ with
 |some p=>f (ρ.set i (some (.sh p)))
 |none=>none
theorem NZ(i:Nat)(h:MS K C t f):MS K C t (uw i f):=by
 intro F H σ ρ D o R e P;unfold uw at e;split at e
 ·rename_i p hp;obtain⟨S,v,_,_,_,R'⟩:=R.TJ (gF hp);exact h _ H σ _ D o R' e (P.up (nO R.rb.sub))
 ·cases e
def PV.xY:PV->Bool
 |.lst l=>l.all PV.still
 |.dk l=>l.all λkv=>kv.2.still
 |.dt l=>l.all λkv=>kv.2.still
 |_=>false
theorem Own.dp{a:Addr}(w:Own K F H a p)(h:p.xY=true):Dp K F H (λb=>b=a) (.ref a) p:=by
 cases p with
 |lst l=>
  obtain⟨xs,e2,e3⟩:=w;exact .lst (S:=λ_ _=>False) e2 rfl (λj b q=>q.elim) (λi j b q=>q.elim) e3.1 λj x p e4 e5=>.fr (e3.2 j x p e4 e5) (Zbx.mp h p (ZaE e5))
 |dk l=>
  obtain⟨xs,e2,e3,e4⟩:=w;exact .dk (S:=λ_ _=>False) e2 rfl (λj b q=>q.elim) (λi j b q=>q.elim) e3 λj x p e5 e6=>.fr (e4 j x p e5 e6) (Zbx.mp h p (ZaE e6))
 |dt l=>
  obtain⟨xs,e2,e3,e4⟩:=w;exact .dt (S:=λ_ _=>False) e2 rfl (λj b q=>q.elim) (λi j b q=>q.elim) e3 λj x p e5 e6=>.fr (e4 j x p e5 e6) (Zbx.mp h p (ZaE e6))
 |_=>cases h
end
open PySem PySem.Spec PyProof PyProof.Rows
def Qo(i j:Int):Prop:=i.natAbs<2^9000/\j.natAbs<2^9000
def Qp(i j:Int):Bool:=decide (i.natAbs<2^9000/\j.natAbs<2^9000)
section
variable{K:Frag}{C:Cg}
theorem sZ{X:Cx}:OpR X (binaryOp .Mult) (rI Qo λi j=>.int (i*j)):=_root_.L2.opI λ_ _ _ _ _ _ _ hc q=>mul_int q (PySem.IntMulOk.of_le (PyProof.Rows.intBits_le hc.1) (PyProof.Rows.intBits_le hc.2) (by decide))
def pg:=MP.opI Qp λi j=>.int (i*j)
theorem xZ:R2M C (aF K) (aF K) (aF K) (rI Qo λi j=>.int (i*j)) pg:=zp (λ_ _ h=>Zbc (p:=_/\_) h) λ_ _ _=>.int
end
end L2.MP
namespace L2
open PySem PySem.Spec PyProof PyProof.Rows
open PySem PySem.W PyProof.Rows
def kIn{α:Type}(n:Nat)(P:α->Prop):KasT α->Prop
 |.ret a=>P a
 |.ask i j k=>i<n/\j<n/\∀ b,kIn n P (k b)
open PySem PySem.Spec PySem.W PyProof PyProof.Rows
open PySem PySem.Spec PySem.W PyProof PyProof.Rows
theorem zH{α:Type}{f:α->V}{g:α->Value}:∀ {l:List α},(∀ i∈l,RelV (f i) (g i))->Vals (l.map f) (l.map g)
 |[],_=>.nil
 |i::l,h=>.cons (h i List.mem_cons_self) (zH λj hj=>h j (List.mem_cons_of_mem _ hj))
namespace MP
end MP
end L2
namespace L2.MP
open PySem PySem.Spec PyProof.Rows
section
theorem zJ{α:Type}{l:List α}{i:Nat}{x:α}(h:l[i]?=some x):l.set i x=l:=by
 apply Zbj
 intro j;rw[List.getElem?_set];split
 ·rename_i e;subst e;rw[Zal (cD h),h]
 ·rfl
theorem Kc{α:Type}(l:List α)(i:Nat)(x y:α):(l.set i x).set i y=l.set i y:=by simp
end
end L2.MP
namespace L2
open PySem PySem.F PySem.Spec PyProof PyProof.Rows
section
def itO(l:Addr):Obj:={ cls:=.type "list_iterator",data:=.fields #[.ref l,.int 0 0] }
end
namespace MP
end MP
open PySem PySem.Spec PyProof PyProof.Rows
namespace MP
end MP
open PySem PySem.Spec PySem.W PyProof PyProof.Rows
namespace MP
end MP
end L2
namespace L2.MP
open PySem PySem.Spec PyProof.Rows
end L2.MP
namespace L2
open PySem PySem.Spec PyProof PyProof.Rows
section
variable{X:Cx}{pins:List (Addr×Obj)}{σ:St}{H:Hp}{s:Shared}{a:Addr}{kvs:List (Key×V)}{k:Key}{z:V}{u r:Value}{A:Around}{E:Value->Shared->Prop}
theorem Ho{Q:Value->Shared->Prop}(I:Inv X pins σ H s)(e:H a=some (.dK kvs))(hl:kvs.length<sizeLine)(ry:RelV (kV k) u)(rz:RelV z r)
  (h1:∀ v,gR kvs k=some v->∀ w' s',Inv X pins σ H s'->RelV v w'->Q w' s')
  (h2:gR kvs k=none->∀ s',Inv X pins σ (upd H a (.dK (putK kvs k z))) s'->Q r s'):wpAny (model X.prog X.w) A (call (.builtin "dict.setdefault") [.ref a,u,r]) Q E s:=by
 obtain⟨zz,hd,vs,rel,dd⟩:=Jl I.hok e;have hz:vs.length<=sizeLine:=by rw[<-rel.length];exact zz
 have hl2:(putK kvs k z).length<=sizeLine:=by have:=gH kvs k z;omega
 have rv:=rel.val k;refine call_meetsIn PySem.F.slot_dict_setdefault dd.typeIs PySem.F.entry_dict_setdefault (PySem.F.args_dict_setdefault_3 _ _ _) (kt_meets_setdefault (bx X.prog X.w) a (ud ry) hd r)
  ⟨vs,dd,hz,λv hv=>?_,λhn h' dd' hs=>?_⟩
 ·rw[hv] at rv;cases e2:gR kvs k with
  |none=>rw[e2] at rv;exact rv.elim
  |some v'=>rw[e2] at rv;exact h1 v' e2 v _ (I.tok _) rv
 ·rw[hn] at rv;have hn':gR kvs k=none:=by
   cases e2:gR kvs k with
   |none=>rfl
   |some v'=>rw[e2] at rv;exact rv.elim
  have he:∃ q,h'.get? a=some q:=let⟨q,_,_,hq,_⟩:=dd';⟨q,hq⟩;exact h2 hn' _ (pU I (by rw[e];exact True.intro) hs he (BP hl2 hd (rel.put k rz) dd'))
end
def zK(td ty tz:TE):TE:=λσ H Q=>td σ H λx H1=>∃ a,x=.ref a/\IsD H1 a/\ty σ H1 λy H2=>tz σ H2 λz H3=>∃ kvs k,H3 a=some (.dK kvs)/\y=kV k/\kvs.length<sizeLine /\
 (∀ v,gR kvs k=some v->Q v H3)/\(gR kvs k=none->Q z (upd H3 a (.dK (putK kvs k z))))
section
variable{X:Cx}{o e f:Expr}{apos cpos:Pos}{td ty tz:TE}
theorem ux(ho:PE X o td)(he:PE X e ty)(hf:PE X f tz)(m:M2 X o "setdefault" apos e f cpos):PE X (.Call (.Attribute o "setdefault" apos) [e,f] [] cpos) (zK td ty tz):=by
 intro pins s σ H Q I h;refine wpAny_Call_method m.base m.few m.line ZbP PySem.F.slot_dict_setdefault PySem.F.type_dict_setdefault (thn (ho pins s σ H _ I h) ?_);rintro u s1 ⟨x,H1,I1,rx,a,ex,d,q1⟩;subst ex;obtain rfl:u=Value.ref a:=rx;obtain⟨t1,t2,_⟩:=xn I1 d;refine⟨t1,t2,?_⟩;rw[m.trees];refine Calls.callWith_builtin rfl (Calls.evalArgs_plain (Calls.spliced_cons (thn (he pins s1 σ H1 _ I1 q1) λiv s2 ⟨y,H2,I2,ry,q2⟩=>
  Calls.spliced_cons (thn (hf pins s2 σ H2 _ I2 q2) λfv s3 ⟨z,H3,I3,rz,kvs,k,ea,ey,hl,c1,c2⟩=>Calls.spliced_nil ?_))))
 subst ey;exact Ho I3 ea hl ry rz (λv hv w' s' I' r'=>⟨v,H3,I',r',c1 v hv⟩) λhn s' I'=>⟨z,_,I',rz,c2 hn⟩
end
namespace MP
end MP
end L2
namespace L2.MP
open PySem PySem.Spec PyProof.Rows
section
variable{K:Frag}{F H:Hp}{S:Addr->Prop}{v:V}{p:PV}
theorem Dp.yc{l:List (Key×PV)}(d:Dp K F H S v (.dk l)):∃ (T:Nat->Addr->Prop) (a:Addr) (xs:List (Key×V)),v=.ref a/\H a=some (.dK xs)/\S a/\(∀ j b,T j b->S b/\b≠a)/\(∀ i j b,T i b->T j b->i=j)/\xs.map (·.1)=l.map (·.1)/\∀ (j:Nat) x p,xs[j]?=some x->l[j]?=some p->Dp K F H (T j) x.2 p.2:=by
 cases d with
 |fr r st=>cases st
 |dk h hp hs dj hl hr=>exact⟨_,_,_,rfl,h,hp,hs,dj,hl,hr⟩
end
section
variable{κ:Type}[DecidableEq κ]
def bj:List (κ×PV)->κ->PV->List (κ×PV)
 |[],k,p=>[(k,p)]
 |(a,q)::l,k,p=>if a=k then(a,p)::l else(a,q)::bj l k p
theorem nQ{k:κ}{q:PV}:∀ {xs:List (κ×V)}{l:List (κ×PV)},xs.map (·.1)=l.map (·.1)->bZ l k=some q->∃ (j:Nat) (v:V),l[j]?=some (k,q)/\xs[j]?=some (k,v)/\gR xs k=some v/\∀ p,bj l k p=l.set j (k,p)
 |[],[],_,e=>by cases e
 |[],_::_,h,_=>by simp at h
 |_::_,[],h,_=>by simp at h
 |(a,v)::xs,(b,r)::l,h,e=>by
  simp only[Zas,List.cons.injEq] at h;obtain⟨h1,h2⟩:=h;have h1:a=b:=h1;subst h1;by_cases hk:a=k
  ·subst hk;unfold bZ at e;rw[Zal rfl] at e;cases e;exact⟨0,v,rfl,rfl,lN rfl,λp=>by unfold bj;rw[Zal rfl];rfl⟩
  ·unfold bZ at e;rw[Zak hk] at e;obtain⟨j,w,e1,e2,e3,e4⟩:=nQ h2 e;exact⟨j+1,w,by simpa using e1,by simpa using e2,by rw[jc hk];exact e3,λp=>by rw[bj,Zak hk,e4];rfl⟩
theorem uy{k:κ}:∀ {xs:List (κ×V)}{l:List (κ×PV)},xs.map (·.1)=l.map (·.1)->bZ l k=none->gR xs k=none/\∀ p,bj l k p=l++[(k,p)]
 |[],[],_,_=>⟨rfl,λ_=>rfl⟩
 |[],_::_,h,_=>by simp at h
 |_::_,[],h,_=>by simp at h
 |(a,v)::xs,(b,r)::l,h,e=>by
  simp only[Zas,List.cons.injEq] at h;obtain⟨h1,h2⟩:=h;have h1:a=b:=h1;subst h1;by_cases hk:a=k
  ·unfold bZ at e;rw[Zal hk] at e;cases e
  ·unfold bZ at e;rw[Zak hk] at e;obtain⟨e1,e2⟩:=uy h2 e;exact⟨by rw[jc hk];exact e1,λp=>by rw[bj,Zak hk,e2];rfl⟩
end
def zL(fe:Fn PV):Fn PV:=λρ=>bnd (fe ρ) λp=>if p.xY=true then some (.ok p) else none
theorem Kd{K:Frag}{C:Cg}{te:TE}{fe:Fn PV}(h:MO K C te fe):MD K C te (zL fe):=by
 intro F H σ ρ Q r R e P;rcases dU e with⟨z,e1,rfl⟩|⟨p,e1,hk⟩
 ·exact h F H σ ρ Q _ R e1 P
 ·split at hk
  ·rename_i hp;cases hk;refine h F H σ ρ Q _ R e1 λa F' H' u n1 n2 w=>P _ F' H' (λb=>b=a) u (w.dp hp) ?_;rintro b rfl;obtain⟨ob,eo⟩:=w.ne;exact⟨n1,n2,ob,eo,λys q=>by subst q;exact w.En eo⟩
  ·cases hk
section
variable{p:PV}
theorem Ke{κ:Type}{l:List (κ×PV)}{j:Nat}{k:κ}{q p:PV}(h:l[j]?=some (k,q)):(l.set j (k,p)).map (·.1)=l.map (·.1):=by
 rw[List.map_set];exact zJ (by rw[Zae,h];rfl)
end
end L2.MP
namespace L2.TS
open PySem PySem.Spec PyProof.Rows
def iJ:Bool->Keyed->Array Keyed->Nat->Nat->Nat->StateT SortSt Sem (Option Nat):=sortPriv% PySem.Builtin.gallop
def fD:Nat->StateT SortSt Sem Unit:=sortPriv% PySem.Builtin.setMinGallop
def uz:Array Keyed->Array Keyed->StateT SortSt Sem (Array Keyed):=sortPriv% PySem.Builtin.mergeLo
def uA:Array Keyed->Array Keyed->StateT SortSt Sem (Array Keyed):=sortPriv% PySem.Builtin.mergeHi
noncomputable abbrev bV(st:SortSt)(g:Nat):SortSt:=SortSt.mk' (kindOf st) (arrOf st) (pendingOf st) g (failedOf st)
theorem eO(g:Nat):fD g=modify λs=>bV s g:=rfl
def beyond(left:Bool)(key:Keyed)(arr:Array Keyed)(base i:Nat):StateT SortSt Sem (Option Bool):=do
 let x <-elem' arr (base+i)
 if left then lt' x key else return (<-lt' key x).map (!·)
theorem Cu(left:Bool)(key:Keyed)(arr:Array Keyed)(base n hint:Nat):iJ left key arr base n hint=(do
 let mut lastofs:=0
 let mut ofs:=1
 let mut lo:=0
 let mut hi:=0
 let some right <-beyond left key arr base hint|return none
 if right then
  let maxofs:=n-hint
  for _ in [0:n] do
   if ofs>=maxofs then break
   let some more <-beyond left key arr base (hint+ofs)|return none
   if !more then break
   lastofs:=ofs
   ofs:=2*ofs+1
  lo:=hint+lastofs+1
  hi:=hint+min ofs maxofs
 else
  let maxofs:=hint+1
  for _ in [0:n] do
   if ofs>=maxofs then break
   let some found <-beyond left key arr base (hint-ofs)|return none
   if found then break
   lastofs:=ofs
   ofs:=2*ofs+1
  lo:=hint+1-min ofs maxofs
  hi:=hint-lastofs
 for _ in [0:n] do
  if lo>=hi then break
  let m:=lo+(hi-lo)/2
  let some more <-beyond left key arr base m|return none
  if more then lo:=m+1 else hi:=m
 return some hi):=rfl
section
variable{prog:Program}{w:World}{A:Around}{E:Value->Shared->Prop}{s:Shared}{κ:SortKind}{D:Keyed->Prop}{r:Keyed->Nat}{st:SortSt}{left:Bool}{key x y:Keyed}{arr:Array Keyed}{base n hint:Nat}
def Cmp(prog:Program)(w:World)(A:Around)(s:Shared)(κ:SortKind)(D:Keyed->Prop)(r:Keyed->Nat):Prop:=
 ∀ x y,D x->D y->∀ (E:Value->Shared->Prop) (Q:Bool->Shared->Prop),Q (decide (r x<r y)) s->wpAny (model prog w) A (keyLt' κ x.1 y.1) Q E s
theorem uB(hc:Cmp prog w A s κ D r)(hk:kindOf st=κ)(hx:D x)(hy:D y){Q:Option Bool->SortSt->Prop}(h:Q (some (decide (r x<r y))) st):wpS (model prog w) A E s (lt' x y) Q st:=by
 rw[lt'_eq];refine Zao (wpS_get ?_);rw[hk];refine Zao (wpS_lift (wpAny_attempt (hc x y hx hy _ _ ⟨rfl,?_⟩)));exact Zax h
theorem bC{M:Model}{i:Nat}{Q:Keyed->SortSt->Prop}(e:arr[i]?=some x)(h:Q x st):wpS M A E s (elem' arr i) Q st:=by
 rw[elem'_eq,e];exact Zax h
theorem Cv(hc:Cmp prog w A s κ D r)(hk:kindOf st=κ){i:Nat}(e:arr[base+i]?=some x)(hx:D x)(hy:D key)(ne:r x≠r key){Q:Option Bool->SortSt->Prop}(h:Q (some (decide (r x<r key))) st):wpS (model prog w) A E s (beyond left key arr base i) Q st:=by
 unfold beyond;refine Zao (bC e ?_);cases left with
 |true=>exact uB hc hk hx hy h
 |false=>
  refine Zao (uB hc hk hy hx (Zax ?_));rw[ZbB,show(!decide (r key<r x))=decide (r x<r key) by
   by_cases q:r key<r x
   ·rw[ZaD q,ZaH (by lia)];rfl
   ·rw[ZaH q,ZaD (by lia)];rfl]
  exact h
theorem p8{M:Model}{f:Nat->Bool}(hb:∀ i,i<n->∀ {Q:Option Bool->SortSt->Prop},Q (some (f i)) st->wpS M A E s (beyond left key arr base i) Q st){lo hi:Nat}(h1:lo<=hi)(h2:hi<=n)(h3:∀ i,i<lo->f i=true)(h4:∀ i,hi<=i->i<n->f i=false)
  (mono:∀ i j,i<=j->j<n->f j=true->f i=true){Q:Option Nat->SortSt->Prop}(h:∀ m,m<=n->(∀ i,i<m->f i=true)->(∀ i,m<=i->i<n->f i=false)->Q (some m) st) :
  wpS M A E s (do
   let mut lo:=lo
   let mut hi:=hi
   for _ in [0:n] do
    if lo>=hi then break
    let m:=lo+(hi-lo)/2
    let some more <-beyond left key arr base m|return none
    if more then lo:=m+1 else hi:=m
   return some hi) Q st:=by
 refine Zao (Zbd (Zbh (I:=λk c st'=>st'=st/\∃ lo hi,c=(none,lo,hi)/\lo<=hi/\hi<=n/\(∀ i,i<lo->f i=true)/\(∀ i,hi<=i->i<n->f i=false)/\hi-lo+k<=n)
  (Q:=λc st'=>st'=st/\∃ m,c=(none,m,m)/\m<=n/\(∀ i,i<m->f i=true)/\(∀ i,m<=i->i<n->f i=false)) ?_ ?_ ⟨rfl,lo,hi,rfl,h1,h2,h3,h4,by omega⟩) ?_)
 ·rintro k c st' _ hk ⟨rfl,lo,hi,rfl,g1,g2,g3,g4,g5⟩;dsimp only;by_cases q:lo>=hi
  ·rw[Zal q];have:lo=hi:=by omega
   subst this;exact Zax ⟨rfl,lo,rfl,g2,g3,g4⟩
  ·rw[Zak q];have mlt:lo+(hi-lo)/2<hi:=by omega
   refine Zao (hb _ (by omega) ?_)
   dsimp only;cases e:f (lo+(hi-lo)/2) with
   |true=>
    rw[Zal rfl];exact Zax ⟨rfl,_,hi,rfl,by omega,g2,λi hi'=>mono i _ (by omega) (by omega) e,g4,by omega⟩
   |false=>
    rw[Zak (by decide)]
    refine Zax ⟨rfl,lo,_,rfl,by omega,by omega,g3,λi h1' h2'=>?_,by omega⟩
    cases ef:f i with
    |false=>rfl
    |true=>rw[mono _ i h1' h2' ef] at e;cases e
 ·rintro c st' ⟨rfl,lo,hi,rfl,g1,g2,g3,g4,g5⟩;have:lo=hi:=by omega
  subst this;exact⟨rfl,lo,rfl,g2,g3,g4⟩
 ·rintro c st' ⟨rfl,m,rfl,g1,g2,g3⟩;exact Zax (h m g1 g2 g3)
theorem zM{M:Model}{f:Nat->Bool}(hb:∀ i,i<n->∀ {Q:Option Bool->SortSt->Prop},Q (some (f i)) st->wpS M A E s (beyond left key arr base i) Q st)(mono:∀ i j,i<=j->j<n->f j=true->f i=true)(hn:hint<n){Q:Option Nat->SortSt->Prop}
  (h:∀ m,m<=n->(∀ i,i<m->f i=true)->(∀ i,m<=i->i<n->f i=false)->Q (some m) st):wpS M A E s (iJ left key arr base n hint) Q st:=by
 have anti:∀ i j,i<=j->j<n->f i=false->f j=false:=λi j h1 h2 e=>by
  cases ef:f j with
  |false=>rfl
  |true=>rw[mono i j h1 h2 ef] at e;cases e
 rw[Cu];refine Zao (hb hint hn ?_);dsimp only;cases e:f hint with
 |true=>
  simp only[Zb3];refine Zao (Zbd (Zbh (I:=λk c st'=>st'=st/\∃ la of,c=(none,la,of)/\la<of/\hint+la<n/\f (hint+la)=true/\k+1<=of)
   (Q:=λc st'=>st'=st/\∃ la of,c=(none,la,of)/\la<of/\hint+la<n/\f (hint+la)=true/\(n-hint<=of\/(hint+of<n/\f (hint+of)=false))) ?_ ?_ ⟨rfl,0,1,rfl,by omega,hn,e,by omega⟩) ?_)
  ·rintro k c st' _ hk ⟨rfl,la,of,rfl,g1,g2,g3,g4⟩;dsimp only;by_cases q:of>=n-hint
   ·rw[Zal q];exact Zax ⟨rfl,la,of,rfl,g1,g2,g3,.inl q⟩
   ·rw[Zak q];refine Zao (hb _ (by omega) ?_)
    dsimp only;cases e2:f (hint+of) with
    |true=>
     rw[Zak (by decide)]
     exact Zax ⟨rfl,of,_,rfl,by omega,by omega,e2,by omega⟩
    |false=>
     rw[Zal (by decide)]
     exact Zax ⟨rfl,la,of,rfl,g1,g2,g3,.inr ⟨by omega,e2⟩⟩
  ·rintro c st' ⟨rfl,la,of,rfl,g1,g2,g3,g4⟩;exact⟨rfl,la,of,rfl,g1,g2,g3,.inl (by omega)⟩
  ·rintro c st' ⟨rfl,la,of,rfl,g1,g2,g3,g4⟩;refine p8 (lo:=hint+la+1) (hi:=hint+min of (n-hint)) hb (by omega) (by omega) (λi hi=>mono i (hint+la) (by omega) g2 g3) (λi h1 h2=>?_) mono h
   rcases g4 with q|⟨q1,q2⟩
   ·omega
   ·exact anti (hint+of) i (by omega) h2 q2
 |false=>
  simp only[ZbZ,ZbJ];refine Zao (Zbd (Zbh (I:=λk c st'=>st'=st/\∃ la of,c=(none,la,of)/\la<of/\la<=hint/\f (hint-la)=false/\k+1<=of)
   (Q:=λc st'=>st'=st/\∃ la of,c=(none,la,of)/\la<of/\la<=hint/\f (hint-la)=false/\(hint+1<=of\/(of<=hint/\f (hint-of)=true))) ?_ ?_ ⟨rfl,0,1,rfl,by omega,by omega,e,by omega⟩) ?_)
  ·rintro k c st' _ hk ⟨rfl,la,of,rfl,g1,g2,g3,g4⟩;dsimp only;by_cases q:of>=hint+1
   ·rw[Zal q];exact Zax ⟨rfl,la,of,rfl,g1,g2,g3,.inl q⟩
   ·rw[Zak q];refine Zao (hb _ (by omega) ?_)
    dsimp only;cases e2:f (hint-of) with
    |true=>
     rw[Zal rfl];exact Zax ⟨rfl,la,of,rfl,g1,g2,g3,.inr ⟨by omega,e2⟩⟩
    |false=>
     rw[Zak (by decide)]
     exact Zax ⟨rfl,of,_,rfl,by omega,by omega,e2,by omega⟩
  ·rintro c st' ⟨rfl,la,of,rfl,g1,g2,g3,g4⟩;exact⟨rfl,la,of,rfl,g1,g2,g3,.inl (by omega)⟩
  ·rintro c st' ⟨rfl,la,of,rfl,g1,g2,g3,g4⟩;refine p8 (lo:=hint+1-min of (hint+1)) (hi:=hint-la) hb (by omega) (by omega) (λi hi=>?_) (λi h1 h2=>anti (hint-la) i (by omega) h2 g3) mono h
   rcases g4 with q|⟨q1,q2⟩
   ·omega
   ·exact mono i (hint-of) (by omega) (by omega) q2
end
theorem zN(i:Nat):mergeAt' i=(do
 let s <-get
 let(some (sa,na,power),some (sb,nb,_)):=((pendingOf s)[i]?,(pendingOf s)[i+1]?)|unsupported "internal:list.sort.pending"
 set (setPending s (((pendingOf s).setIfInBounds i (sa,na+nb,power)).eraseIdxIfInBounds (i+1)))
 let some k <-iJ false (<-elem' (arrOf s) sb) (arrOf s) sa na 0|return false
 let(sa,na):=(sa+k,na-k)
 if na==0 then return true
 let some nb <-iJ true (<-elem' (arrOf s) (sa+na-1)) (arrOf s) sb nb (nb-1)|return false
 if nb==0 then return true
 let x:=(arrOf s).extract sa sb
 let y:=(arrOf s).extract sb (sb+nb)
 let merged <-if na<=nb then uz x y else uA x y
 modify λs=>setArr s (merged.toList.zipIdx.foldl (λa (p,j)=>a.setIfInBounds (sa+j) p) (arrOf s))
 return (failedOf (<-get)).isNone):=rfl
section
variable{r:Keyed->Nat}{la lb out:List Keyed}{ia ib:Nat}
def Srt(r:Keyed->Nat)(l:List Keyed):Prop:=l.Pairwise λx y=>r x<r y
structure Mg(r:Keyed->Nat)(la lb out:List Keyed)(ia ib:Nat):Prop where
 so:Srt r out
 lt:∀ o∈out,∀ z∈la.drop ia++lb.drop ib,r o<r z
 pm:out.Perm (la.take ia++lb.take ib)
theorem Mg.as(h:Mg r la lb out ia ib)(sa:Srt r la)(k:Nat)(hk:∀ x∈(la.drop ia).take k,∀ y∈lb.drop ib,r x<r y):Mg r la lb (out++(la.drop ia).take k) (ia+k) ib:=by
 have sd:Srt r (la.drop ia):=Zan (ZaY _ _) sa;have e:la.drop (ia+k)=(la.drop ia).drop k:=by rw[List.drop_drop]
 refine⟨Zap.mpr ⟨h.so,Zan (ZaU _ _) sd,λo ho x hx=>h.lt o ho x (Zad.mpr (.inl (ZaW hx)))⟩,λo ho z hz=>?_,?_⟩
 ·rw[e] at hz;rcases Zad.mp ho with q|q
  ·refine h.lt o q z ?_;rcases Zad.mp hz with w|w
   ·exact Zad.mpr (.inl (Za4 w))
   ·exact Zad.mpr (.inr w)
  ·rcases Zad.mp hz with w|w
   ·have:=sd;rw[<-ZaL k (la.drop ia)] at this;exact(Zap.mp this).2.2 o q z w
   ·exact hk o q z w
 ·rw[List.take_add];refine(h.pm.append_right _).trans ?_;rw[Zau,Zau];exact Zbe _ List.perm_append_comm
theorem Mg.bs(h:Mg r la lb out ia ib)(sb:Srt r lb)(k:Nat)(hk:∀ y∈(lb.drop ib).take k,∀ x∈la.drop ia,r y<r x):Mg r la lb (out++(lb.drop ib).take k) ia (ib+k):=by
 have sd:Srt r (lb.drop ib):=Zan (ZaY _ _) sb;have e:lb.drop (ib+k)=(lb.drop ib).drop k:=by rw[List.drop_drop]
 refine⟨Zap.mpr ⟨h.so,Zan (ZaU _ _) sd,λo ho x hx=>h.lt o ho x (Zad.mpr (.inr (ZaW hx)))⟩,λo ho z hz=>?_,?_⟩
 ·rw[e] at hz;rcases Zad.mp ho with q|q
  ·refine h.lt o q z ?_;rcases Zad.mp hz with w|w
   ·exact Zad.mpr (.inl w)
   ·exact Zad.mpr (.inr (Za4 w))
  ·rcases Zad.mp hz with w|w
   ·exact hk o q z w
   ·have:=sd;rw[<-ZaL k (lb.drop ib)] at this;exact(Zap.mp this).2.2 o q z w
 ·rw[List.take_add,<-Zau];exact h.pm.append_right _
theorem Mg.end(h:Mg r la lb out ia ib)(sa:Srt r la)(sb:Srt r lb)(hk:∀ x∈la.drop ia,∀ y∈lb.drop ib,r x<r y):Srt r (out++la.drop ia++lb.drop ib)/\(out++la.drop ia++lb.drop ib).Perm (la++lb):=by
 refine⟨?_,?_⟩
 ·rw[Zau];refine Zap.mpr ⟨h.so,Zap.mpr ⟨Zan (ZaY _ _) sa,Zan (ZaY _ _) sb,hk⟩,h.lt⟩
 ·have e:(la++lb).Perm (la.take ia++lb.take ib++(la.drop ia++lb.drop ib)):=by
   conv=>lhs;rw[<-ZaL ia la,<-ZaL ib lb]
   simp only[Zau];refine Zbe _ ?_;rw[<-Zau,<-Zau];exact ZbY _ List.perm_append_comm
  rw[Zau];exact(h.pm.append_right _).trans e.symm
theorem Mg.Ro(h:Mg r la lb out ia ib)(sa:Srt r la)(sb:Srt r lb)(hk:∀ x∈la.drop ia,∀ y∈lb.drop ib,r y<r x):Srt r (out++lb.drop ib++la.drop ia)/\(out++lb.drop ib++la.drop ia).Perm (la++lb):=by
 refine⟨?_,?_⟩
 ·rw[Zau];exact Zap.mpr ⟨h.so,Zap.mpr ⟨Zan (ZaY _ _) sb,Zan (ZaY _ _) sa,λy hy x hx=>hk x hx y hy⟩,λo ho z hz=>h.lt o ho z (by
   rcases Zad.mp hz with q|q
   ·exact Zad.mpr (.inr q)
   ·exact Zad.mpr (.inl q))⟩
 ·have e:(la++lb).Perm (la.take ia++lb.take ib++(lb.drop ib++la.drop ia)):=by
   conv=>lhs;rw[<-ZaL ia la,<-ZaL ib lb]
   simp only[Zau];refine Zbe _ ?_;refine List.perm_append_comm.trans ?_;rw[Zau]
  rw[Zau];exact(h.pm.append_right _).trans e.symm
end
noncomputable abbrev S7:=Option (Array Keyed)×Array Keyed×Nat×Nat×Nat×Nat×Nat
noncomputable abbrev S6:=Option (Array Keyed)×Array Keyed×Nat×Nat×Nat×Nat
noncomputable abbrev S5:=Option (Array Keyed)×Array Keyed×Nat×Nat×Nat
noncomputable abbrev dnL(a b out:Array Keyed)(ia ib:Nat):Array Keyed:=out++a.extract ia a.size++b.extract ib b.size
noncomputable abbrev laL(a b out:Array Keyed)(ia ib:Nat):Array Keyed:=out++b.extract ib b.size++a.extract ia a.size
def Kf(a b out:Array Keyed)(ia ib mg ac bc:Nat):StateT SortSt Sem (ForInStep S7):=do
 let x <-elem' a ia
 if ia+1+1==a.size then return .done (some (laL a b (out.push x) (ia+1) ib),out.push x,ia+1,ib,mg,ac,bc)
 if ac<7&&bc<7 then return .done (none,out.push x,ia+1,ib,mg,ac,bc)
 return .yield (none,out.push x,ia+1,ib,mg,ac,bc)
def Kg(a b out:Array Keyed)(ia ib mg ac bc:Nat):StateT SortSt Sem (ForInStep S7):=do
 let y <-elem' b ib
 if ib+1==b.size then return .done (some (dnL a b (out.push y) ia (ib+1)),out.push y,ia,ib+1,mg,ac,bc)
 let some k <-iJ true (<-elem' a ia) b (ib+1) (b.size-(ib+1)) 0|return .done (some (dnL a b (out.push y) ia (ib+1)),out.push y,ia,ib+1,mg,ac,bc)
 if k>0 then
  if ib+1+k==b.size then return .done (some (dnL a b (out.push y++b.extract (ib+1) (ib+1+k)) ia (ib+1+k)),out.push y++b.extract (ib+1) (ib+1+k),ia,ib+1+k,mg,ac,k)
  Kf a b (out.push y++b.extract (ib+1) (ib+1+k)) ia (ib+1+k) mg ac k
 else Kf a b (out.push y) ia (ib+1) mg ac k
def N5(a b out:Array Keyed)(ia ib mg ac bc:Nat):StateT SortSt Sem (ForInStep S7):=do
 fD mg
 let some k <-iJ false (<-elem' b ib) a ia (a.size-ia) 0|return .done (some (dnL a b out ia ib),out,ia,ib,mg,ac,bc)
 if k>0 then
  if ia+k+1==a.size then return .done (some (laL a b (out++a.extract ia (ia+k)) (ia+k) ib),out++a.extract ia (ia+k),ia+k,ib,mg,k,bc)
  if ia+k==a.size then return .done (some (dnL a b (out++a.extract ia (ia+k)) (ia+k) ib),out++a.extract ia (ia+k),ia+k,ib,mg,k,bc)
  Kg a b (out++a.extract ia (ia+k)) (ia+k) ib mg k bc
 else Kg a b out ia ib mg k bc
def Rp(a b:Array Keyed)(c:S7):StateT SortSt Sem (ForInStep S7):=
 if c.2.2.2.2.1>1 then N5 a b c.2.1 c.2.2.1 c.2.2.2.1 (c.2.2.2.2.1-1) c.2.2.2.2.2.1 c.2.2.2.2.2.2 else N5 a b c.2.1 c.2.2.1 c.2.2.2.1 c.2.2.2.2.1 c.2.2.2.2.2.1 c.2.2.2.2.2.2
def Rq(a b:Array Keyed)(mg:Nat)(c:S6):StateT SortSt Sem (ForInStep S6):=do
 let some bWins <-lt' (<-elem' b c.2.2.2.1) (<-elem' a c.2.2.1)|return .done (some (dnL a b c.2.1 c.2.2.1 c.2.2.2.1),c.2.1,c.2.2.1,c.2.2.2.1,c.2.2.2.2.1,c.2.2.2.2.2)
 if bWins then
  let y <-elem' b c.2.2.2.1
  if c.2.2.2.1+1==b.size then return .done (some (dnL a b (c.2.1.push y) c.2.2.1 (c.2.2.2.1+1)),c.2.1.push y,c.2.2.1,c.2.2.2.1+1,0,c.2.2.2.2.2+1)
  if c.2.2.2.2.2+1>=mg then return .done (none,c.2.1.push y,c.2.2.1,c.2.2.2.1+1,0,c.2.2.2.2.2+1)
  return .yield (none,c.2.1.push y,c.2.2.1,c.2.2.2.1+1,0,c.2.2.2.2.2+1)
 else
  let x <-elem' a c.2.2.1
  if c.2.2.1+1+1==a.size then return .done (some (laL a b (c.2.1.push x) (c.2.2.1+1) c.2.2.2.1),c.2.1.push x,c.2.2.1+1,c.2.2.2.1,c.2.2.2.2.1+1,0)
  if c.2.2.2.2.1+1>=mg then return .done (none,c.2.1.push x,c.2.2.1+1,c.2.2.2.1,c.2.2.2.2.1+1,0)
  return .yield (none,c.2.1.push x,c.2.2.1+1,c.2.2.2.1,c.2.2.2.2.1+1,0)
def Rr(a b:Array Keyed)(c:S5):StateT SortSt Sem (ForInStep S5):=do
 let d <-forIn [0:a.size+b.size] ((none,c.2.1,c.2.2.1,c.2.2.2.1,0,0):S6) λ_ d=>Rq a b c.2.2.2.2 d
 match d.1 with
 |some r=>pure (.done (some r,d.2.1,d.2.2.1,d.2.2.2.1,c.2.2.2.2))
 |none=>do
  rule "list.sort.gallop"
  let e <-forIn [0:a.size+b.size] ((none,d.2.1,d.2.2.1,d.2.2.2.1,c.2.2.2.2+1,d.2.2.2.2.1,d.2.2.2.2.2):S7) λ_ e=>Rp a b e
  match e.1 with
  |some r=>pure (.done (some r,e.2.1,e.2.2.1,e.2.2.2.1,e.2.2.2.2.1))
  |none=>do
   fD (e.2.2.2.2.1+1)
   pure (.yield (none,e.2.1,e.2.2.1,e.2.2.2.1,e.2.2.2.2.1+1))
def zO(a b:Array Keyed):StateT SortSt Sem (Array Keyed):=do
 rule "list.sort.merge-lo"
 let y <-elem' b 0
 if 1==b.size then return dnL a b #[y] 0 1
 if 0+1==a.size then return laL a b #[y] 0 1
 let s <-get
 let c <-forIn [0:a.size+b.size] ((none,#[y],0,1,gallopOf s):S5) λ_ c=>Rr a b c
 match c.1 with
 |some r=>pure r
 |none=>unsupported "internal:list.sort.merge-bound"
theorem zP(a b:Array Keyed):uz a b=zO a b:=by
 kernel_rfl
section
variable{prog:Program}{w:World}{A:Around}{E:Value->Shared->Prop}{s:Shared}{κ:SortKind}{D:Keyed->Prop}{r:Keyed->Nat}{st:SortSt}{a b:Array Keyed}
theorem jG{M:Model}{x:String}{Q:Unit->SortSt->Prop}(h:Q () st):wpS M A E s (rule x:StateT SortSt Sem Unit) Q st:=wpS_lift (wpAny_rule ⟨rfl,h⟩)
theorem ext_toList(a:Array Keyed)(i j:Nat)(h:i<=j)(hj:j<=a.size):(a.extract i j).toList=(a.toList.drop i).take (j-i):=by
 simp[Array.toList_extract,List.extract]
theorem tu(a:Array Keyed)(i:Nat):(a.extract i a.size).toList=a.toList.drop i:=by
 rw[Array.toList_extract];simp[List.extract];exact Za9 (by simp)
structure yd(D:Keyed->Prop)(r:Keyed->Nat)(a b:Array Keyed):Prop where
 da:∀ x∈a.toList,D x
 db:∀ x∈b.toList,D x
 sa:Srt r a.toList
 sb:Srt r b.toList
 ne:∀ x∈a.toList,∀ y∈b.toList,r x≠r y
 la:∀ x,a.toList[a.size-1]?=some x->∀ y∈b.toList,r y<r x
def Good(r:Keyed->Nat)(a b out:Array Keyed):Prop:=Srt r out.toList/\out.toList.Perm (a.toList++b.toList)
theorem qb{out:Array Keyed}{ia ib:Nat}(o:yd D r a b)(m:Mg r a.toList b.toList out.toList ia ib)(h:ib=b.size\/ia=a.size):Good r a b (dnL a b out ia ib):=by
 have e:=m.end o.sa o.sb (λx hx y hy=>by
  rcases h with q|q
  ·rw[q,Zbn (by simp)] at hy;cases hy
  ·rw[q,Zbn (by simp)] at hx;cases hx)
 unfold Good dnL;rw[ZaV,ZaV,tu,tu];exact e
theorem tD{out:Array Keyed}{ia ib:Nat}(o:yd D r a b)(m:Mg r a.toList b.toList out.toList ia ib)(h:ia+1=a.size):Good r a b (laL a b out ia ib):=by
 have e:=m.Ro o.sa o.sb (λx hx y hy=>by
  have:a.toList.drop ia=[a.toList[ia]'(by simp;lia)]:=by
   rw[Za7 (by simp;lia),Zbn (by simp;lia)]
  rw[this,Zai] at hx;refine o.la x ?_ y (Za4 hy);rw[hx,show a.size-1=ia by lia]
  exact Zaa (by simp;lia))
 unfold Good laL;rw[ZaV,ZaV,tu,tu];exact e
theorem gm{left:Bool}{key:Keyed}{arr:Array Keyed}{base n hint:Nat}{L:List Keyed}(hc:Cmp prog w A s κ D r)(hk:kindOf st=κ)(hn:hint<n)(hb:base+n<=arr.size)(hL:(arr.toList.drop base).take n=L)(dk:D key)(dl:∀ x∈L,D x/\r x≠r key)(sl:Srt r L){Q:Option Nat->SortSt->Prop}
  (h:∀ k,k<=n->(∀ x∈L.take k,r x<r key)->(∀ x∈L.drop k,r key<r x)->Q (some k) st):wpS (model prog w) A E s (iJ left key arr base n hint) Q st:=by
 have ll:L.length=n:=by rw[<-hL];simp;lia
 have at_:∀ i (hi:i<n),arr[base+i]?=some (L[i]'(by lia)):=λi hi=>by
  rw[<-ZaK];have:L[i]?=arr.toList[base+i]?:=by
   rw[<-hL,List.getElem?_take,Zal hi,List.getElem?_drop]
  rw[<-this,Zaa]
 have mem:∀ i (hi:i<n),L[i]'(by lia)∈L:=λi hi=>Zbq _
 refine zM (f:=λi=>if hi:i<n then decide (r (L[i]'(by lia))<r key) else false) (λi hi Q q=>?_) (λi j hij hj e=>?_) hn λm hm g1 g2=>?_
 ·rw[dif_pos hi] at q;exact Cv hc hk (at_ i hi) (dl _ (mem i hi)).1 dk (dl _ (mem i hi)).2 q
 ·rw[dif_pos hj] at e;rw[dif_pos (by lia)]
  have e:=Zbc e;refine ZaD ?_;by_cases q:i=j
  ·subst q;exact e
  ·exact ZbG (Zbu.mp sl i j (by lia) (by lia) (by lia)) e
 ·refine h m hm (λx hx=>?_) λx hx=>?_
  ·obtain⟨i,hi,rfl⟩:=List.mem_iff_getElem.mp hx;rw[Zbw] at hi;have:=g1 i (by lia)
   rw[dif_pos (by lia)] at this
   rw[List.getElem_take];exact Zbc this
  ·obtain⟨i,hi,rfl⟩:=List.mem_iff_getElem.mp hx;rw[List.length_drop] at hi;have:=g2 (m+i) (by lia) (by lia)
   rw[dif_pos (by lia)] at this
   rw[List.getElem_drop];have t1:=of_decide_eq_false this;have t2:=(dl _ (mem (m+i) (by lia))).2
   lia
structure In(r:Keyed->Nat)(a b out:Array Keyed)(ia ib:Nat):Prop where
 mg:Mg r a.toList b.toList out.toList ia ib
 ha:ia+1<a.size
 hb:ib<b.size
def P7(r:Keyed->Nat)(a b:Array Keyed)(n:Nat):ForInStep S7->Prop
 |.done (some o,_)=>Good r a b o
 |.done (none,out,ia,ib,_)=>In r a b out ia ib/\n<=ia+ib
 |.yield (none,out,ia,ib,_)=>In r a b out ia ib/\n<=ia+ib
 |.yield (some _,_)=>False
theorem take1{l:List Keyed}{i:Nat}{x:Keyed}(h:l[i]?=some x):(l.drop i).take 1=[x]/\l.drop i=x::l.drop (i+1):=by
 have hi:=(ZaB.mp h).1;have e:l.drop i=x::l.drop (i+1):=by
  rw[Za7 hi];congr 1
  rw[Zaa hi] at h;exact Zah h
 rw[e];exact⟨rfl,rfl⟩
theorem mj{l:List Keyed}{i:Nat}{x:Keyed}(sl:Srt r l)(h:l[i]?=some x):∀ z∈l.drop i,r x<=r z:=λz hz=>by
 have:=Zan (ZaY i l) sl;rw[(take1 h).2] at hz this;rcases Zay.mp hz with q|q
 ·rw[q];exact Zaf _
 ·exact ZaJ ((Zb0.mp this).1 z q)
theorem N6{M:Model}{out:Array Keyed}{ia ib mg ac bc:Nat}(o:yd D r a b)(i:In r a b out ia ib)(hx:∀ x,a.toList[ia]?=some x->∀ y∈b.toList.drop ib,r x<r y) :
  wpS M A E s (Kf a b out ia ib mg ac bc) (λc st'=>st'=st/\P7 r a b (ia+ib+1) c) st:=by
 obtain⟨x,ex⟩:∃ x,a.toList[ia]?=some x:=⟨_,Zaa (by have:=i.ha;simp;lia)⟩
 have t1:=take1 ex;have m:Mg r a.toList b.toList (out.push x).toList (ia+1) ib:=by
  have:=i.mg.as o.sa 1 (by rw[t1.1];intro z hz;rw[Zai.mp hz];exact hx x ex)
  rw[t1.1] at this;rw[Zbk];exact this
 have ha:=i.ha;have hb:=i.hb;unfold Kf;refine Zao (bC (x:=x) (by rw[<-ZaK];exact ex) ?_)
 by_cases q:ia+1+1=a.size
 ·rw[Zal (by simpa using q)]
  exact Zax ⟨rfl,tD o m q⟩
 ·rw[Zak (by simpa using q)]
  have I:In r a b (out.push x) (ia+1) ib:=⟨m,by lia,hb⟩
  split
  ·exact Zax ⟨rfl,I,by lia⟩
  ·exact Zax ⟨rfl,I,by lia⟩
end
section
variable{prog:Program}{w:World}{A:Around}{E:Value->Shared->Prop}{s:Shared}{κ:SortKind}{D:Keyed->Prop}{r:Keyed->Nat}{st:SortSt}{a b:Array Keyed}
theorem P7.mono{n m:Nat}(h:n<=m):∀ {c:ForInStep S7},P7 r a b m c->P7 r a b n c
 |.done (some _,_),p=>p
 |.done (none,_,_,_,_),p=>⟨p.1,ZaX h p.2⟩
 |.yield (none,_,_,_,_),p=>⟨p.1,ZaX h p.2⟩
 |.yield (some _,_),p=>p
theorem getL{l:Array Keyed}{i:Nat}(h:i<l.size):∃ x,l.toList[i]?=some x/\l[i]?=some x:=⟨_,Zaa (by simpa using h),by rw[Zar h,Array.getElem_toList]⟩
theorem lJ{l:Array Keyed}{i:Nat}{x:Keyed}(h:l.toList[i]?=some x):x∈l.toList:=ZaE h
theorem wz(l:Array Keyed)(i:Nat)(h:i<=l.size):(l.toList.drop i).take (l.size-i)=l.toList.drop i:=Za9 (by simp)
theorem N7{out:Array Keyed}{ia ib mg ac bc:Nat}(hc:Cmp prog w A s κ D r)(hk:kindOf st=κ)(o:yd D r a b)(i:In r a b out ia ib)(hy:∀ y,b.toList[ib]?=some y->∀ x∈a.toList.drop ia,r y<r x) :
  wpS (model prog w) A E s (Kg a b out ia ib mg ac bc) (λc st'=>st'=st/\P7 r a b (ia+ib+1) c) st:=by
 have ha:=i.ha;have hb:=i.hb;obtain⟨y,ey,ey'⟩:=getL hb;have t1:=take1 ey;have m:Mg r a.toList b.toList (out.push y).toList ia (ib+1):=by
  have:=i.mg.bs o.sb 1 (by rw[t1.1];intro z hz;rw[Zai.mp hz];exact hy y ey)
  rw[t1.1] at this;rw[Zbk];exact this
 unfold Kg;refine Zao (bC ey' ?_);by_cases q:ib+1=b.size
 ·rw[Zal (by simpa using q)]
  exact Zax ⟨rfl,qb o m (.inl q)⟩
 ·rw[Zak (by simpa using q)]
  obtain⟨x,ex,ex'⟩:=getL (l:=a) (i:=ia) (by omega)
  refine Zao (bC ex' ?_);refine Zao (gm hc hk (by omega) (by omega) (wz b (ib+1) (by omega)) (o.da x (lJ ex)) (λz hz=>⟨o.db z (Za4 hz),λe=>o.ne x (lJ ex) z (Za4 hz) e.symm⟩) (Zan (ZaY _ _) o.sb) λk hk' g1 g2=>?_)
  dsimp only;rw[List.drop_drop] at g2;have fin:∀ {o2:Array Keyed}{j:Nat},Mg r a.toList b.toList o2.toList ia j->j=ib+1+k->¬j=b.size->wpS (model prog w) A E s (Kf a b o2 ia j mg ac k) (λc st'=>st'=st/\P7 r a b (ia+ib+1) c) st:=λ{o2 j} m2 e ne=>by
   refine Zbd (N6 o ⟨m2,ha,by omega⟩ λx' ex2 z hz=>?_) λc st' p=>⟨p.1,P7.mono (by omega) p.2⟩
   rw[ex] at ex2;cases ex2;rw[e] at hz;exact g2 z hz
  by_cases q2:k>0
  ·rw[Zal q2];have m2:Mg r a.toList b.toList (out.push y++b.extract (ib+1) (ib+1+k)).toList ia (ib+1+k):=by
    have:=m.bs o.sb k λz hz x' hx'=>Zaw (g1 z hz) (mj o.sa ex x' hx');rw[ZaV,ext_toList b _ _ (by omega) (by omega),ZbR]
    exact this
   by_cases q3:ib+1+k=b.size
   ·rw[Zal (by simpa using q3)]
    exact Zax ⟨rfl,qb o m2 (.inl q3)⟩
   ·rw[Zak (by simpa using q3)]
    exact fin m2 rfl q3
  ·rw[Zak q2];exact fin m (by omega) (by omega)
theorem Fi{out:Array Keyed}{ia ib mg ac bc:Nat}(hc:Cmp prog w A s κ D r)(hk:kindOf st=κ)(o:yd D r a b)(i:In r a b out ia ib) :
  wpS (model prog w) A E s (N5 a b out ia ib mg ac bc) (λc st'=>st'=bV st mg/\P7 r a b (ia+ib+1) c) st:=by
 have ha:=i.ha;have hb:=i.hb;obtain⟨y,ey,ey'⟩:=getL hb;unfold N5;rw[eO];refine Zao (wpS_modify ?_);refine Zao (bC ey' ?_);refine Zao (gm hc (show kindOf (bV st mg)=κ from hk) (by omega) (by omega) (wz a ia (by omega)) (o.db y (lJ ey)) (λz hz=>⟨o.da z (Za4 hz),λe=>o.ne z (Za4 hz) y (lJ ey) e⟩) (Zan (ZaY _ _) o.sa) λk hk' g1 g2=>?_)
 dsimp only;rw[List.drop_drop] at g2;have fin:∀ {o2:Array Keyed}{j:Nat},Mg r a.toList b.toList o2.toList j ib->j=ia+k->j+1<a.size->wpS (model prog w) A E s (Kg a b o2 j ib mg k bc) (λc st'=>st'=bV st mg/\P7 r a b (ia+ib+1) c) (bV st mg):=λ{o2 j} m2 e ne=>by
  refine Zbd (N7 hc (show kindOf (bV st mg)=κ from hk) o ⟨m2,ne,hb⟩ λy' ey2 z hz=>?_) λc st' p=>⟨p.1,P7.mono (by omega) p.2⟩
  rw[ey] at ey2;cases ey2;rw[e] at hz;exact g2 z hz
 by_cases q2:k>0
 ·rw[Zal q2];have m2:Mg r a.toList b.toList (out++a.extract ia (ia+k)).toList (ia+k) ib:=by
   have:=i.mg.as o.sa k λx hx z hz=>Zaw (g1 x hx) (mj o.sb ey z hz);rw[ZaV,ext_toList a _ _ (by omega) (by omega),ZbR]
   exact this
  by_cases q3:ia+k+1=a.size
  ·rw[Zal (by simpa using q3)]
   exact Zax ⟨rfl,tD o m2 q3⟩
  ·rw[Zak (by simpa using q3)]
   by_cases q4:ia+k=a.size
   ·rw[Zal (by simpa using q4)]
    exact Zax ⟨rfl,qb o m2 (.inr q4)⟩
   ·rw[Zak (by simpa using q4)]
    exact fin m2 rfl (by omega)
 ·rw[Zak q2];exact fin i.mg (by omega) (by omega)
theorem N8{c:S7}(hc:Cmp prog w A s κ D r)(hk:kindOf st=κ)(o:yd D r a b)(i:In r a b c.2.1 c.2.2.1 c.2.2.2.1) :
  wpS (model prog w) A E s (Rp a b c) (λc' st'=>(∃ g,st'=bV st g)/\P7 r a b (c.2.2.1+c.2.2.2.1+1) c') st:=by
 unfold Rp;split
 ·exact Zbd (Fi hc hk o i) λc' st' p=>⟨⟨_,p.1⟩,p.2⟩
 ·exact Zbd (Fi hc hk o i) λc' st' p=>⟨⟨_,p.1⟩,p.2⟩
def P6(r:Keyed->Nat)(a b:Array Keyed)(n:Nat):ForInStep S6->Prop
 |.done (some o,_)=>Good r a b o
 |.done (none,out,ia,ib,_)=>In r a b out ia ib/\n<=ia+ib
 |.yield (none,out,ia,ib,_)=>In r a b out ia ib/\n<=ia+ib
 |.yield (some _,_)=>False
theorem Oa{c:S6}{mg:Nat}(hc:Cmp prog w A s κ D r)(hk:kindOf st=κ)(o:yd D r a b)(i:In r a b c.2.1 c.2.2.1 c.2.2.2.1) :
  wpS (model prog w) A E s (Rq a b mg c) (λc' st'=>st'=st/\P6 r a b (c.2.2.1+c.2.2.2.1+1) c') st:=by
 obtain⟨c0,out,ia,ib,ac,bc⟩:=c;have ha:ia+1<a.size:=i.ha;have hb:ib<b.size:=i.hb;obtain⟨y,ey,ey'⟩:=getL hb;obtain⟨x,ex,ex'⟩:=getL (l:=a) (i:=ia) (by lia)
 unfold Rq;dsimp only;refine Zao (bC ey' (Zao (bC ex' (Zao (uB hc hk (o.db y (lJ ey)) (o.da x (lJ ex)) ?_)))));dsimp only;have nxy:=o.ne x (lJ ex) y (lJ ey);by_cases q:r y<r x
 ·rw[ZaD q,Zal rfl];have t1:=take1 ey;have m:Mg r a.toList b.toList (out.push y).toList ia (ib+1):=by
   have:=i.mg.bs o.sb 1 (by rw[t1.1];intro z hz x' hx';rw[Zai.mp hz];exact Zaw q (mj o.sa ex x' hx'))
   rw[t1.1] at this;rw[Zbk];exact this
  refine Zao (bC ey' ?_);by_cases q2:ib+1=b.size
  ·rw[Zal (by simpa using q2)]
   exact Zax ⟨rfl,qb o m (.inl q2)⟩
  ·rw[Zak (by simpa using q2)]
   have I:In r a b (out.push y) ia (ib+1):=⟨m,ha,by lia⟩
   split
   ·exact Zax ⟨rfl,I,Nat.le_of_eq (by lia)⟩
   ·exact Zax ⟨rfl,I,Nat.le_of_eq (by lia)⟩
 ·rw[ZaH q,Zak (by decide)]
  have t1:=take1 ex;have m:Mg r a.toList b.toList (out.push x).toList (ia+1) ib:=by
   have:=i.mg.as o.sa 1 (by rw[t1.1];intro z hz y' hy';rw[Zai.mp hz];exact Zaw (by lia) (mj o.sb ey y' hy'))
   rw[t1.1] at this;rw[Zbk];exact this
  refine Zao (bC ex' ?_);by_cases q2:ia+1+1=a.size
  ·rw[Zal (by simpa using q2)]
   exact Zax ⟨rfl,tD o m q2⟩
  ·rw[Zak (by simpa using q2)]
   have I:In r a b (out.push x) (ia+1) ib:=⟨m,by lia,hb⟩
   split
   ·exact Zax ⟨rfl,I,Nat.le_of_eq (by lia)⟩
   ·exact Zax ⟨rfl,I,Nat.le_of_eq (by lia)⟩
end
section
variable{prog:Program}{w:World}{A:Around}{E:Value->Shared->Prop}{s:Shared}{κ:SortKind}{D:Keyed->Prop}{r:Keyed->Nat}{st:SortSt}{a b:Array Keyed}
def P5(r:Keyed->Nat)(a b:Array Keyed)(n:Nat):ForInStep S5->Prop
 |.done (some o,_)=>Good r a b o
 |.done (none,_)=>False
 |.yield (none,out,ia,ib,_)=>In r a b out ia ib/\n<=ia+ib
 |.yield (some _,_)=>False
theorem Ob{c:S5}(hc:Cmp prog w A s κ D r)(hk:kindOf st=κ)(o:yd D r a b)(i:In r a b c.2.1 c.2.2.1 c.2.2.2.1) :
  wpS (model prog w) A E s (Rr a b c) (λc' st'=>(∃ g,st'=bV st g)/\P5 r a b (c.2.2.1+c.2.2.2.1+1) c') st:=by
 obtain⟨c0,out,ia,ib,mg⟩:=c;have ha:ia+1<a.size:=i.ha;unfold Rr;dsimp only;refine Zao (Zbd (Zbh (I:=λk d st'=>st'=st/\∃ o2 i2 j2 ac bc,d=((none,o2,i2,j2,ac,bc):S6)/\In r a b o2 i2 j2/\ia+ib+k<=i2+j2)
  (Q:=λd st'=>st'=st/\((∃ o2 x,d=((some o2,x):S6)/\Good r a b o2)\/∃ o2 i2 j2 ac bc,d=((none,o2,i2,j2,ac,bc):S6)/\In r a b o2 i2 j2/\ia+ib+1<=i2+j2)) ?_ ?_ ⟨rfl,out,ia,ib,0,0,rfl,i,Zaf _⟩) ?_)
 ·rintro k d st' _ hk' ⟨rfl,o2,i2,j2,ac,bc,rfl,I,hn⟩;refine Zbd (Oa (c:=(none,o2,i2,j2,ac,bc)) hc hk o I) λe st' p=>?_;obtain⟨rfl,p⟩:=p
  match e,p with
  |.done (some o3,x),p=>exact⟨rfl,.inl ⟨o3,x,rfl,p⟩⟩
  |.done (none,o3,i3,j3,a3,b3),p=>exact⟨rfl,.inr ⟨o3,i3,j3,a3,b3,rfl,p.1,by have:i2+j2+1<=i3+j3:=p.2;lia⟩⟩
  |.yield (none,o3,i3,j3,a3,b3),p=>exact⟨rfl,o3,i3,j3,a3,b3,rfl,p.1,by have:i2+j2+1<=i3+j3:=p.2;lia⟩
  |.yield (some _,_),p=>exact p.elim
 ·rintro d st' ⟨rfl,o2,i2,j2,ac,bc,rfl,I,hn⟩;exact⟨rfl,.inr ⟨o2,i2,j2,ac,bc,rfl,I,by lia⟩⟩
 ·rintro d st' ⟨rfl,⟨o2,x,rfl,G⟩|⟨o2,i2,j2,ac,bc,rfl,I,hn⟩⟩
  ·exact Zax ⟨⟨gallopOf st',rfl⟩,G⟩
  ·dsimp only;refine Zao (jG ?_);refine Zao (Zbd (Zbh (I:=λk e st2=>(∃ g,st2=bV st' g)/\∃ o2 i2 j2 mg ac bc,e=((none,o2,i2,j2,mg,ac,bc):S7)/\In r a b o2 i2 j2/\ia+ib+1<=i2+j2)
    (Q:=λe st2=>(∃ g,st2=bV st' g)/\((∃ o2 x,e=((some o2,x):S7)/\Good r a b o2)\/∃ o2 i2 j2 mg ac bc,e=((none,o2,i2,j2,mg,ac,bc):S7)/\In r a b o2 i2 j2/\ia+ib+1<=i2+j2)) ?_ ?_ ⟨⟨gallopOf st',rfl⟩,o2,i2,j2,_,ac,bc,rfl,I,hn⟩) ?_)
   ·rintro k e st2 _ _ ⟨⟨g,rfl⟩,o3,i3,j3,m3,a3,b3,rfl,I3,hn3⟩;refine Zbd (N8 (c:=(none,o3,i3,j3,m3,a3,b3)) hc (show kindOf (bV st' g)=κ from hk) o I3) λe st3 p=>?_;obtain⟨⟨g2,rfl⟩,p⟩:=p
    match e,p with
    |.done (some o4,x),p=>exact⟨⟨g2,rfl⟩,.inl ⟨o4,x,rfl,p⟩⟩
    |.done (none,o4,i4,j4,m4,a4,b4),p=>exact⟨⟨g2,rfl⟩,.inr ⟨o4,i4,j4,m4,a4,b4,rfl,p.1,by have:i3+j3+1<=i4+j4:=p.2;lia⟩⟩
    |.yield (none,o4,i4,j4,m4,a4,b4),p=>exact⟨⟨g2,rfl⟩,o4,i4,j4,m4,a4,b4,rfl,p.1,by have:i3+j3+1<=i4+j4:=p.2;lia⟩
    |.yield (some _,_),p=>exact p.elim
   ·rintro e st2 ⟨G,o3,i3,j3,m3,a3,b3,rfl,I3,hn3⟩;exact⟨G,.inr ⟨o3,i3,j3,m3,a3,b3,rfl,I3,hn3⟩⟩
   ·rintro e st2 ⟨⟨g,rfl⟩,⟨o3,x,rfl,G⟩|⟨o3,i3,j3,m3,a3,b3,rfl,I3,hn3⟩⟩
    ·exact Zax ⟨⟨g,rfl⟩,G⟩
    ·dsimp only;rw[eO];refine Zao (wpS_modify ?_);exact Zax ⟨⟨_,rfl⟩,I3,hn3⟩
theorem zQ(hc:Cmp prog w A s κ D r)(hk:kindOf st=κ)(a1:1<=a.size)(b1:1<=b.size)(o:yd D r a b)(hf:∀ y,b.toList[0]?=some y->∀ x∈a.toList,r y<r x){Q:Array Keyed->SortSt->Prop}
  (h:∀ out g,Good r a b out->Q out (bV st g)):wpS (model prog w) A E s (uz a b) Q st:=by
 rw[zP];unfold zO;refine Zao (jG ?_);obtain⟨y,ey,ey'⟩:=getL (l:=b) (i:=0) (by lia)
 refine Zao (bC ey' ?_);have t1:=take1 ey;have m:Mg r a.toList b.toList (#[y]:Array Keyed).toList 0 1:=by
  have m0:Mg r a.toList b.toList [] 0 0:=⟨.nil,λ_ h=>(nomatch h),by simp⟩
  have:=m0.bs o.sb 1 (by rw[t1.1];intro z hz x hx;rw[Zai.mp hz];exact hf y ey x (by simpa using hx))
  rw[t1.1] at this;exact this
 by_cases q:1=b.size
 ·rw[Zal (by simpa using q)]
  exact Zax (h _ (gallopOf st) (qb o m (.inl q)))
 ·rw[Zak (by simpa using q)]
  by_cases q2:0+1=a.size
  ·rw[Zal (by simpa using q2)]
   exact Zax (h _ (gallopOf st) (tD o m q2))
  ·rw[Zak (by simpa using q2)]
   refine Zao (wpS_get ?_);refine Zao (Zbd (Zbh (I:=λk c st'=>(∃ g,st'=bV st g)/\∃ out ia ib mg,c=((none,out,ia,ib,mg):S5)/\In r a b out ia ib/\k+1<=ia+ib)
    (Q:=λc st'=>(∃ g,st'=bV st g)/\∃ out x,c=((some out,x):S5)/\Good r a b out) ?_ ?_ ⟨⟨gallopOf st,rfl⟩,_,0,1,_,rfl,⟨m,by lia,by lia⟩,by lia⟩) ?_)
   ·rintro k c st' _ hk' ⟨⟨g,rfl⟩,out,ia,ib,mg,rfl,I,hn⟩;refine Zbd (Ob (c:=(none,out,ia,ib,mg)) hc (show kindOf (bV st g)=κ from hk) o I) λe st3 p=>?_;obtain⟨⟨g2,rfl⟩,p⟩:=p
    match e,p with
    |.done (some o4,x),p=>exact⟨⟨g2,rfl⟩,o4,x,rfl,p⟩
    |.done (none,_),p=>exact p.elim
    |.yield (none,o4,i4,j4,m4),p=>exact⟨⟨g2,rfl⟩,o4,i4,j4,m4,rfl,p.1,by have:ia+ib+1<=i4+j4:=p.2;lia⟩
    |.yield (some _,_),p=>exact p.elim
   ·rintro c st' ⟨_,out,ia,ib,mg,rfl,I,hn⟩;have:=I.ha;have:=I.hb;lia
   ·rintro c st' ⟨⟨g,rfl⟩,out,x,rfl,G⟩;exact Zax (h out g G)
end
noncomputable abbrev T7:=Option (Array Keyed)×Nat×Nat×Array Keyed×Nat×Nat×Nat
noncomputable abbrev T6:=Option (Array Keyed)×Nat×Nat×Array Keyed×Nat×Nat
noncomputable abbrev T5:=Option (Array Keyed)×Nat×Nat×Array Keyed×Nat
noncomputable abbrev dnH(a b out:Array Keyed)(na nb:Nat):Array Keyed:=a.extract 0 na++b.extract 0 nb++out.reverse
noncomputable abbrev fbH(a b out:Array Keyed)(na nb:Nat):Array Keyed:=b.extract 0 nb++a.extract 0 na++out.reverse
def Kh(a b out:Array Keyed)(na nb mg ac bc:Nat):StateT SortSt Sem (ForInStep T7):=do
 let x <-elem' a (na-1)
 if na-1==0 then return .done (some (dnH a b (out.push x) (na-1) nb),na-1,nb,out.push x,mg,ac,bc)
 if ac<7&&bc<7 then return .done (none,na-1,nb,out.push x,mg,ac,bc)
 return .yield (none,na-1,nb,out.push x,mg,ac,bc)
def Kl(a b out:Array Keyed)(na nb mg ac bc:Nat):StateT SortSt Sem (ForInStep T7):=do
 let y <-elem' b (nb-1)
 if nb-1==1 then return .done (some (fbH a b (out.push y) na (nb-1)),na,nb-1,out.push y,mg,ac,bc)
 let some at_ <-iJ true (<-elem' a (na-1)) b 0 (nb-1) (nb-1-1)|return .done (some (dnH a b (out.push y) na (nb-1)),na,nb-1,out.push y,mg,ac,bc)
 if nb-1-at_>0 then
  if at_==1 then return .done (some (fbH a b (out.push y++(b.extract at_ (nb-1)).reverse) na at_),na,at_,out.push y++(b.extract at_ (nb-1)).reverse,mg,ac,nb-1-at_)
  if at_==0 then return .done (some (dnH a b (out.push y++(b.extract at_ (nb-1)).reverse) na at_),na,at_,out.push y++(b.extract at_ (nb-1)).reverse,mg,ac,nb-1-at_)
  Kh a b (out.push y++(b.extract at_ (nb-1)).reverse) na at_ mg ac (nb-1-at_)
 else Kh a b (out.push y) na (nb-1) mg ac (nb-1-at_)
def Oc(a b out:Array Keyed)(na nb mg ac bc:Nat):StateT SortSt Sem (ForInStep T7):=do
 fD mg
 let some at_ <-iJ false (<-elem' b (nb-1)) a 0 na (na-1)|return .done (some (dnH a b out na nb),na,nb,out,mg,ac,bc)
 if na-at_>0 then
  if at_==0 then return .done (some (dnH a b (out++(a.extract at_ na).reverse) at_ nb),at_,nb,out++(a.extract at_ na).reverse,mg,na-at_,bc)
  Kl a b (out++(a.extract at_ na).reverse) at_ nb mg (na-at_) bc
 else Kl a b out na nb mg (na-at_) bc
def Rt(a b:Array Keyed)(c:T7):StateT SortSt Sem (ForInStep T7):=
 if c.2.2.2.2.1>1 then Oc a b c.2.2.2.1 c.2.1 c.2.2.1 (c.2.2.2.2.1-1) c.2.2.2.2.2.1 c.2.2.2.2.2.2 else Oc a b c.2.2.2.1 c.2.1 c.2.2.1 c.2.2.2.2.1 c.2.2.2.2.2.1 c.2.2.2.2.2.2
def Ru(a b:Array Keyed)(mg:Nat)(c:T6):StateT SortSt Sem (ForInStep T6):=do
 let some aWins <-lt' (<-elem' b (c.2.2.1-1)) (<-elem' a (c.2.1-1))|return .done (some (dnH a b c.2.2.2.1 c.2.1 c.2.2.1),c.2.1,c.2.2.1,c.2.2.2.1,c.2.2.2.2.1,c.2.2.2.2.2)
 if aWins then
  let x <-elem' a (c.2.1-1)
  if c.2.1-1==0 then return .done (some (dnH a b (c.2.2.2.1.push x) (c.2.1-1) c.2.2.1),c.2.1-1,c.2.2.1,c.2.2.2.1.push x,c.2.2.2.2.1+1,0)
  if c.2.2.2.2.1+1>=mg then return .done (none,c.2.1-1,c.2.2.1,c.2.2.2.1.push x,c.2.2.2.2.1+1,0)
  return .yield (none,c.2.1-1,c.2.2.1,c.2.2.2.1.push x,c.2.2.2.2.1+1,0)
 else
  let y <-elem' b (c.2.2.1-1)
  if c.2.2.1-1==1 then return .done (some (fbH a b (c.2.2.2.1.push y) c.2.1 (c.2.2.1-1)),c.2.1,c.2.2.1-1,c.2.2.2.1.push y,0,c.2.2.2.2.2+1)
  if c.2.2.2.2.2+1>=mg then return .done (none,c.2.1,c.2.2.1-1,c.2.2.2.1.push y,0,c.2.2.2.2.2+1)
  return .yield (none,c.2.1,c.2.2.1-1,c.2.2.2.1.push y,0,c.2.2.2.2.2+1)
def Rv(a b:Array Keyed)(c:T5):StateT SortSt Sem (ForInStep T5):=do
 let d <-forIn [0:a.size+b.size] ((none,c.2.1,c.2.2.1,c.2.2.2.1,0,0):T6) λ_ d=>Ru a b c.2.2.2.2 d
 match d.1 with
 |some r=>pure (.done (some r,d.2.1,d.2.2.1,d.2.2.2.1,c.2.2.2.2))
 |none=>do
  rule "list.sort.gallop"
  let e <-forIn [0:a.size+b.size] ((none,d.2.1,d.2.2.1,d.2.2.2.1,c.2.2.2.2+1,d.2.2.2.2.1,d.2.2.2.2.2):T7) λ_ e=>Rt a b e
  match e.1 with
  |some r=>pure (.done (some r,e.2.1,e.2.2.1,e.2.2.2.1,e.2.2.2.2.1))
  |none=>do
   fD (e.2.2.2.2.1+1)
   pure (.yield (none,e.2.1,e.2.2.1,e.2.2.2.1,e.2.2.2.2.1+1))
def zR(a b:Array Keyed):StateT SortSt Sem (Array Keyed):=do
 rule "list.sort.merge-hi"
 let x <-elem' a (a.size-1)
 if a.size-1==0 then return dnH a b #[x] (a.size-1) b.size
 if b.size==1 then return fbH a b #[x] (a.size-1) b.size
 let s <-get
 let c <-forIn [0:a.size+b.size] ((none,a.size-1,b.size,#[x],gallopOf s):T5) λ_ c=>Rv a b c
 match c.1 with
 |some r=>pure r
 |none=>unsupported "internal:list.sort.merge-bound"
theorem zT(a b:Array Keyed):uA a b=zR a b:=by
 kernel_rfl
section
variable{r:Keyed->Nat}{la lb out:List Keyed}{na nb:Nat}
structure Mh(r:Keyed->Nat)(la lb out:List Keyed)(na nb:Nat):Prop where
 so:Srt r out.reverse
 lt:∀ o∈out,∀ z∈la.take na++lb.take nb,r z<r o
 pm:out.Perm (la.drop na++lb.drop nb)
theorem kJ(l:List Keyed){i j:Nat}(h:i<=j):l.drop i=(l.take j).drop i++l.drop j:=by
 conv=>lhs;rw[<-ZaL j l]
 by_cases q:j<=l.length
 ·rw[List.drop_append_of_le_length (by simp;lia)]
 ·rw[show l.drop j=[] from Zbn (by lia),ZaS,ZaS]
theorem Mh.as(h:Mh r la lb out na nb)(sa:Srt r la){i:Nat}(hi:i<=na)(hk:∀ x∈(la.take na).drop i,∀ y∈lb.take nb,r y<r x):Mh r la lb (out++((la.take na).drop i).reverse) i nb:=by
 have st:Srt r (la.take na):=Zan (ZaU _ _) sa;have e:la.take i=(la.take na).take i:=by rw[Zbz,Zbp hi]
 have sp:Srt r ((la.take na).take i++(la.take na).drop i):=by rw[ZaL];exact st
 refine⟨?_,λo ho z hz=>?_,?_⟩
 ·rw[List.reverse_append,List.reverse_reverse];exact Zap.mpr ⟨Zan (ZaY _ _) st,h.so,λx hx o ho=>h.lt o (ZbV.mp ho) x (Zad.mpr (.inl (Za4 hx)))⟩
 ·rw[e] at hz;rcases Zad.mp ho with q|q
  ·refine h.lt o q z ?_;rcases Zad.mp hz with w|w
   ·exact Zad.mpr (.inl (ZaW w))
   ·exact Zad.mpr (.inr w)
  ·have q:=ZbV.mp q;rcases Zad.mp hz with w|w
   ·exact(Zap.mp sp).2.2 z w o q
   ·exact hk o q z w
 ·rw[kJ la hi,Zau];refine(List.Perm.append h.pm (List.reverse_perm _)).trans ?_;exact List.perm_append_comm
theorem Mh.bs(h:Mh r la lb out na nb)(sb:Srt r lb){i:Nat}(hi:i<=nb)(hk:∀ y∈(lb.take nb).drop i,∀ x∈la.take na,r x<r y):Mh r la lb (out++((lb.take nb).drop i).reverse) na i:=by
 have st:Srt r (lb.take nb):=Zan (ZaU _ _) sb;have e:lb.take i=(lb.take nb).take i:=by rw[Zbz,Zbp hi]
 have sp:Srt r ((lb.take nb).take i++(lb.take nb).drop i):=by rw[ZaL];exact st
 refine⟨?_,λo ho z hz=>?_,?_⟩
 ·rw[List.reverse_append,List.reverse_reverse];exact Zap.mpr ⟨Zan (ZaY _ _) st,h.so,λx hx o ho=>h.lt o (ZbV.mp ho) x (Zad.mpr (.inr (Za4 hx)))⟩
 ·rw[e] at hz;rcases Zad.mp ho with q|q
  ·refine h.lt o q z ?_;rcases Zad.mp hz with w|w
   ·exact Zad.mpr (.inl w)
   ·exact Zad.mpr (.inr (ZaW w))
  ·have q:=ZbV.mp q;rcases Zad.mp hz with w|w
   ·exact hk o q z w
   ·exact(Zap.mp sp).2.2 z w o q
 ·rw[kJ lb hi];refine(List.Perm.append h.pm (List.reverse_perm _)).trans ?_;rw[Zau];refine Zbe _ ?_;exact List.perm_append_comm
theorem Km(la lb:List Keyed)(na nb:Nat):(la.take na++lb.take nb++(la.drop na++lb.drop nb)).Perm (la++lb):=by
 conv=>rhs;rw[<-ZaL na la,<-ZaL nb lb]
 simp only[Zau];refine Zbe _ ?_;rw[<-Zau,<-Zau];exact ZbY _ List.perm_append_comm
theorem Mh.end(h:Mh r la lb out na nb)(sa:Srt r la)(sb:Srt r lb)(hk:∀ x∈la.take na,∀ y∈lb.take nb,r x<r y):Srt r (la.take na++lb.take nb++out.reverse)/\(la.take na++lb.take nb++out.reverse).Perm (la++lb):=by
 refine⟨Zap.mpr ⟨Zap.mpr ⟨Zan (ZaU _ _) sa,Zan (ZaU _ _) sb,hk⟩,h.so,λz hz o ho=>h.lt o (ZbV.mp ho) z hz⟩,?_⟩;exact(Zbe _ ((List.reverse_perm _).trans h.pm)).trans (Km la lb na nb)
theorem Mh.Ro(h:Mh r la lb out na nb)(sa:Srt r la)(sb:Srt r lb)(hk:∀ x∈la.take na,∀ y∈lb.take nb,r y<r x):Srt r (lb.take nb++la.take na++out.reverse)/\(lb.take nb++la.take na++out.reverse).Perm (la++lb):=by
 refine⟨Zap.mpr ⟨Zap.mpr ⟨Zan (ZaU _ _) sb,Zan (ZaU _ _) sa,λy hy x hx=>hk x hx y hy⟩,h.so,λz hz o ho=>h.lt o (ZbV.mp ho) z (by
  rcases Zad.mp hz with q|q
  ·exact Zad.mpr (.inr q)
  ·exact Zad.mpr (.inl q))⟩,?_⟩
 refine(List.Perm.append List.perm_append_comm ((List.reverse_perm _).trans h.pm)).trans (Km la lb na nb)
end
section
variable{prog:Program}{w:World}{A:Around}{E:Value->Shared->Prop}{s:Shared}{κ:SortKind}{D:Keyed->Prop}{r:Keyed->Nat}{st:SortSt}{a b:Array Keyed}
structure ye(D:Keyed->Prop)(r:Keyed->Nat)(a b:Array Keyed):Prop where
 da:∀ x∈a.toList,D x
 db:∀ x∈b.toList,D x
 sa:Srt r a.toList
 sb:Srt r b.toList
 ne:∀ x∈a.toList,∀ y∈b.toList,r x≠r y
 fb:∀ y,b.toList[0]?=some y->∀ x∈a.toList,r y<r x
theorem qd(a:Array Keyed)(j:Nat)(h:j<=a.size):(a.extract 0 j).toList=a.toList.take j:=by
 rw[ext_toList a 0 j (Zba _) h,Zbo,Nat.sub_zero]
theorem Fj(a:Array Keyed)(i j:Nat)(h:i<=j)(hj:j<=a.size):(a.extract i j).reverse.toList=((a.toList.take j).drop i).reverse:=by
 rw[Array.toList_reverse,ext_toList a i j h hj,List.drop_take]
theorem zU{out:Array Keyed}{na nb:Nat}(o:ye D r a b)(m:Mh r a.toList b.toList out.toList na nb)(ha:na<=a.size)(hb:nb<=b.size)(h:na=0\/nb=0):Good r a b (dnH a b out na nb):=by
 have e:=m.end o.sa o.sb (λx hx y hy=>by
  rcases h with q|q
  ·rw[q] at hx;cases hx
  ·rw[q] at hy;cases hy)
 unfold Good dnH;rw[ZaV,ZaV,qd a na ha,qd b nb hb,Array.toList_reverse];exact e
theorem Fl{out:Array Keyed}{na nb:Nat}(o:ye D r a b)(m:Mh r a.toList b.toList out.toList na nb)(ha:na<=a.size)(hb:nb<=b.size)(h:nb=1):Good r a b (fbH a b out na nb):=by
 have e:=m.Ro o.sa o.sb (λx hx y hy=>by
  rw[h] at hy;obtain⟨y0,e0⟩:∃ y0,b.toList[0]?=some y0:=⟨_,Zaa (by simp;lia)⟩
  have:b.toList.take 1=[y0]:=by
   have:=(take1 e0).1
   rwa [Zbo] at this
  rw[this,Zai] at hy;rw[hy];exact o.fb y0 e0 x (ZaW hx))
 unfold Good fbH;rw[ZaV,ZaV,qd a na ha,qd b nb hb,Array.toList_reverse];exact e
structure Ih(r:Keyed->Nat)(a b out:Array Keyed)(na nb:Nat):Prop where
 mh:Mh r a.toList b.toList out.toList na nb
 a0:1<=na
 a1:na<=a.size
 b0:2<=nb
 b1:nb<=b.size
def H7(r:Keyed->Nat)(a b:Array Keyed)(n:Nat):ForInStep T7->Prop
 |.done (some o,_)=>Good r a b o
 |.done (none,na,nb,out,_)=>Ih r a b out na nb/\na+nb<=n
 |.yield (none,na,nb,out,_)=>Ih r a b out na nb/\na+nb<=n
 |.yield (some _,_)=>False
theorem H7.mono{n m:Nat}(h:n<=m):∀ {c:ForInStep T7},H7 r a b n c->H7 r a b m c
 |.done (some _,_),p=>p
 |.done (none,_,_,_,_),p=>⟨p.1,ZaX p.2 h⟩
 |.yield (none,_,_,_,_),p=>⟨p.1,ZaX p.2 h⟩
 |.yield (some _,_),p=>p
theorem Fo{l:List Keyed}{n:Nat}{x:Keyed}(h0:1<=n)(h:l[n-1]?=some x):(l.take n).drop (n-1)=[x]:=by
 have hi:=(ZaB.mp h).1;have e:l.take n=l.take (n-1)++[x]:=by
  conv=>lhs;rw[show n=n-1+1 by lia]
  rw[List.take_succ,h];rfl
 rw[e,List.drop_left' (by simp;lia)]
theorem mq{l:List Keyed}{n:Nat}{x:Keyed}(sl:Srt r l)(h0:1<=n)(h:l[n-1]?=some x):∀ z∈l.take n,r z<=r x:=λz hz=>by
 have e:l.take n=l.take (n-1)++[x]:=by
  conv=>lhs;rw[show n=n-1+1 by omega]
  rw[List.take_succ,h];rfl
 have:=Zan (ZaU n l) sl;rw[e] at hz this;rcases Zad.mp hz with q|q
 ·exact ZaJ ((Zap.mp this).2.2 z q x (by simp))
 ·rw[Zai.mp q];exact Zaf _
theorem Mh.a1{out:Array Keyed}{na nb:Nat}{x:Keyed}(m:Mh r a.toList b.toList out.toList na nb)(sa:Srt r a.toList)(h0:1<=na)(ex:a.toList[na-1]?=some x)(hx:∀ y∈b.toList.take nb,r y<r x):Mh r a.toList b.toList (out.push x).toList (na-1) nb:=by
 have:=m.as sa (i:=na-1) (by omega) (by rw[Fo h0 ex];intro z hz;rw[Zai.mp hz];exact hx)
 rw[Fo h0 ex] at this;rw[Zbk];exact this
theorem Mh.b1{out:Array Keyed}{na nb:Nat}{y:Keyed}(m:Mh r a.toList b.toList out.toList na nb)(sb:Srt r b.toList)(h0:1<=nb)(ey:b.toList[nb-1]?=some y)(hy:∀ x∈a.toList.take na,r x<r y):Mh r a.toList b.toList (out.push y).toList na (nb-1):=by
 have:=m.bs sb (i:=nb-1) (by omega) (by rw[Fo h0 ey];intro z hz;rw[Zai.mp hz];exact hy)
 rw[Fo h0 ey] at this;rw[Zbk];exact this
theorem Od{M:Model}{out:Array Keyed}{na nb mg ac bc:Nat}(o:ye D r a b)(i:Ih r a b out na nb)(hx:∀ x,a.toList[na-1]?=some x->∀ y∈b.toList.take nb,r y<r x) :
  wpS M A E s (Kh a b out na nb mg ac bc) (λc st'=>st'=st/\H7 r a b (na+nb-1) c) st:=by
 obtain⟨mh,a0,a1,b0,b1⟩:=i;obtain⟨x,ex,ex'⟩:=getL (l:=a) (i:=na-1) (by lia)
 have m:=mh.a1 o.sa a0 ex (hx x ex);unfold Kh;refine Zao (bC ex' ?_);by_cases q:na-1=0
 ·rw[Zal (by simpa using q)]
  exact Zax ⟨rfl,zU o m (by lia) b1 (.inl q)⟩
 ·rw[Zak (by simpa using q)]
  have I:Ih r a b (out.push x) (na-1) nb:=⟨m,by lia,by lia,b0,b1⟩
  split
  ·exact Zax ⟨rfl,I,by lia⟩
  ·exact Zax ⟨rfl,I,by lia⟩
theorem Oe{out:Array Keyed}{na nb mg ac bc:Nat}(hc:Cmp prog w A s κ D r)(hk:kindOf st=κ)(o:ye D r a b)(i:Ih r a b out na nb)(hy:∀ y,b.toList[nb-1]?=some y->∀ x∈a.toList.take na,r x<r y) :
  wpS (model prog w) A E s (Kl a b out na nb mg ac bc) (λc st'=>st'=st/\H7 r a b (na+nb-1) c) st:=by
 obtain⟨mh,a0,a1,b0,b1⟩:=i;obtain⟨y,ey,ey'⟩:=getL (l:=b) (i:=nb-1) (by omega)
 have m:=mh.b1 o.sb (by omega) ey (hy y ey)
 unfold Kl;refine Zao (bC ey' ?_);by_cases q:nb-1=1
 ·rw[Zal (by simpa using q)]
  exact Zax ⟨rfl,Fl o m a1 (by omega) q⟩
 ·rw[Zak (by simpa using q)]
  obtain⟨x,ex,ex'⟩:=getL (l:=a) (i:=na-1) (by omega)
  refine Zao (bC ex' ?_);refine Zao (gm (L:=b.toList.take (nb-1)) hc hk (by omega) (by omega) (by rw[Zbo]) (o.da x (lJ ex)) (λz hz=>⟨o.db z (ZaW hz),λe=>o.ne x (lJ ex) z (ZaW hz) e.symm⟩) (Zan (ZaU _ _) o.sb) λk hk' g1 g2=>?_)
  dsimp only;rw[Zbz,Zbp hk'] at g1;have fin:∀ {o2:Array Keyed}{j:Nat},Mh r a.toList b.toList o2.toList na j->j=k->2<=j->∀ bc,wpS (model prog w) A E s (Kh a b o2 na j mg ac bc) (λc st'=>st'=st/\H7 r a b (na+nb-1) c) st:=λ{o2 j} m2 e ne bc=>by
   refine Zbd (Od o ⟨m2,a0,a1,ne,by omega⟩ λx' ex2 z hz=>?_) λc st' p=>⟨p.1,H7.mono (by omega) p.2⟩
   rw[ex] at ex2;cases ex2;rw[e] at hz;exact g1 z hz
  by_cases q2:nb-1-k>0
  ·rw[Zal q2];have m2:Mh r a.toList b.toList (out.push y++(b.extract k (nb-1)).reverse).toList na k:=by
    have:=m.bs o.sb (i:=k) (by omega) λz hz x' hx'=>Nat.lt_of_le_of_lt (mq o.sa a0 ex x' hx') (g2 z hz)
    rw[ZaV,Fj b k (nb-1) (by omega) (by omega)]
    exact this
   by_cases q3:k=1
   ·rw[Zal (by simpa using q3)]
    exact Zax ⟨rfl,Fl o m2 a1 (by omega) q3⟩
   ·rw[Zak (by simpa using q3)]
    by_cases q4:k=0
    ·rw[Zal (by simpa using q4)]
     exact Zax ⟨rfl,zU o m2 a1 (by omega) (.inr q4)⟩
    ·rw[Zak (by simpa using q4)]
     exact fin m2 rfl (by omega) _
  ·rw[Zak q2];exact fin m (by omega) (by omega) _
theorem Fp{out:Array Keyed}{na nb mg ac bc:Nat}(hc:Cmp prog w A s κ D r)(hk:kindOf st=κ)(o:ye D r a b)(i:Ih r a b out na nb) :
  wpS (model prog w) A E s (Oc a b out na nb mg ac bc) (λc st'=>st'=bV st mg/\H7 r a b (na+nb-1) c) st:=by
 obtain⟨mh,a0,a1,b0,b1⟩:=i;obtain⟨y,ey,ey'⟩:=getL (l:=b) (i:=nb-1) (by lia)
 unfold Oc;rw[eO];refine Zao (wpS_modify ?_);refine Zao (bC ey' ?_);refine Zao (gm (L:=a.toList.take na) hc (show kindOf (bV st mg)=κ from hk) (by lia) (by lia) (by rw[Zbo]) (o.db y (lJ ey)) (λz hz=>⟨o.da z (ZaW hz),λe=>o.ne z (ZaW hz) y (lJ ey) e⟩) (Zan (ZaU _ _) o.sa) λk hk' g1 g2=>?_)
 dsimp only;rw[Zbz,Zbp hk'] at g1;have fin:∀ {o2:Array Keyed}{j:Nat},Mh r a.toList b.toList o2.toList j nb->j=k->1<=j->∀ ac,wpS (model prog w) A E s (Kl a b o2 j nb mg ac bc) (λc st'=>st'=bV st mg/\H7 r a b (na+nb-1) c) (bV st mg):=λ{o2 j} m2 e ne ac=>by
  refine Zbd (Oe hc (show kindOf (bV st mg)=κ from hk) o ⟨m2,ne,by lia,b0,b1⟩ λy' ey2 z hz=>?_) λc st' p=>⟨p.1,H7.mono (by lia) p.2⟩
  rw[ey] at ey2;cases ey2;rw[e] at hz;exact g1 z hz
 by_cases q2:na-k>0
 ·rw[Zal q2];have m2:Mh r a.toList b.toList (out++(a.extract k na).reverse).toList k nb:=by
   have:=mh.as o.sa (i:=k) (by lia) λx hx z hz=>Nat.lt_of_le_of_lt (mq o.sb (by lia) ey z hz) (g2 x hx)
   rw[ZaV,Fj a k na (by lia) a1]
   exact this
  by_cases q3:k=0
  ·rw[Zal (by simpa using q3)]
   exact Zax ⟨rfl,zU o m2 (by lia) b1 (.inl q3)⟩
  ·rw[Zak (by simpa using q3)]
   exact fin m2 rfl (by lia) _
 ·rw[Zak q2];exact fin mh (by lia) a0 _
theorem Og{c:T7}(hc:Cmp prog w A s κ D r)(hk:kindOf st=κ)(o:ye D r a b)(i:Ih r a b c.2.2.2.1 c.2.1 c.2.2.1) :
  wpS (model prog w) A E s (Rt a b c) (λc' st'=>(∃ g,st'=bV st g)/\H7 r a b (c.2.1+c.2.2.1-1) c') st:=by
 unfold Rt;split
 ·exact Zbd (Fp hc hk o i) λc' st' p=>⟨⟨_,p.1⟩,p.2⟩
 ·exact Zbd (Fp hc hk o i) λc' st' p=>⟨⟨_,p.1⟩,p.2⟩
def H6(r:Keyed->Nat)(a b:Array Keyed)(n:Nat):ForInStep T6->Prop
 |.done (some o,_)=>Good r a b o
 |.done (none,na,nb,out,_)=>Ih r a b out na nb/\na+nb<=n
 |.yield (none,na,nb,out,_)=>Ih r a b out na nb/\na+nb<=n
 |.yield (some _,_)=>False
theorem Oh{c:T6}{mg:Nat}(hc:Cmp prog w A s κ D r)(hk:kindOf st=κ)(o:ye D r a b)(i:Ih r a b c.2.2.2.1 c.2.1 c.2.2.1) :
  wpS (model prog w) A E s (Ru a b mg c) (λc' st'=>st'=st/\H6 r a b (c.2.1+c.2.2.1-1) c') st:=by
 obtain⟨c0,na,nb,out,ac,bc⟩:=c;obtain⟨mh,a0,a1,b0,b1⟩:=i;have a0:1<=na:=a0;have b0:2<=nb:=b0;have a1:na<=a.size:=a1;have b1:nb<=b.size:=b1;obtain⟨y,ey,ey'⟩:=getL (l:=b) (i:=nb-1) (by lia)
 obtain⟨x,ex,ex'⟩:=getL (l:=a) (i:=na-1) (by lia)
 unfold Ru;dsimp only;refine Zao (bC ey' (Zao (bC ex' (Zao (uB hc hk (o.db y (lJ ey)) (o.da x (lJ ex)) ?_)))));dsimp only;have nxy:=o.ne x (lJ ex) y (lJ ey);by_cases q:r y<r x
 ·rw[ZaD q,Zal rfl];have m:=mh.a1 o.sa a0 ex λz hz=>Nat.lt_of_le_of_lt (mq o.sb (by lia) ey z hz) q
  refine Zao (bC ex' ?_);by_cases q2:na-1=0
  ·rw[Zal (by simpa using q2)]
   exact Zax ⟨rfl,zU o m (by lia) b1 (.inl q2)⟩
  ·rw[Zak (by simpa using q2)]
   have I:Ih r a b (out.push x) (na-1) nb:=⟨m,by lia,by lia,b0,b1⟩
   split
   ·exact Zax ⟨rfl,I,by show na-1+nb<=na+nb-1;lia⟩
   ·exact Zax ⟨rfl,I,by show na-1+nb<=na+nb-1;lia⟩
 ·rw[ZaH q,Zak (by decide)]
  have m:=mh.b1 o.sb (by lia) ey λz hz=>Nat.lt_of_le_of_lt (mq o.sa a0 ex z hz) (by lia)
  refine Zao (bC ey' ?_);by_cases q2:nb-1=1
  ·rw[Zal (by simpa using q2)]
   exact Zax ⟨rfl,Fl o m a1 (by lia) q2⟩
  ·rw[Zak (by simpa using q2)]
   have I:Ih r a b (out.push y) na (nb-1):=⟨m,a0,a1,by lia,by lia⟩
   split
   ·exact Zax ⟨rfl,I,by show na+(nb-1)<=na+nb-1;lia⟩
   ·exact Zax ⟨rfl,I,by show na+(nb-1)<=na+nb-1;lia⟩
def H5(r:Keyed->Nat)(a b:Array Keyed)(n:Nat):ForInStep T5->Prop
 |.done (some o,_)=>Good r a b o
 |.done (none,_)=>False
 |.yield (none,na,nb,out,_)=>Ih r a b out na nb/\na+nb<=n
 |.yield (some _,_)=>False
theorem Oi{c:T5}(hc:Cmp prog w A s κ D r)(hk:kindOf st=κ)(o:ye D r a b)(i:Ih r a b c.2.2.2.1 c.2.1 c.2.2.1) :
  wpS (model prog w) A E s (Rv a b c) (λc' st'=>(∃ g,st'=bV st g)/\H5 r a b (c.2.1+c.2.2.1-1) c') st:=by
 obtain⟨c0,na,nb,out,mg⟩:=c;have a0:1<=na:=i.a0;have a1:na<=a.size:=i.a1;unfold Rv;dsimp only;refine Zao (Zbd (Zbh (I:=λk d st'=>st'=st/\∃ o2 i2 j2 ac bc,d=((none,i2,j2,o2,ac,bc):T6)/\Ih r a b o2 i2 j2/\i2+j2+k<=na+nb)
  (Q:=λd st'=>st'=st/\((∃ o2 x,d=((some o2,x):T6)/\Good r a b o2)\/∃ o2 i2 j2 ac bc,d=((none,i2,j2,o2,ac,bc):T6)/\Ih r a b o2 i2 j2/\i2+j2<=na+nb-1)) ?_ ?_ ⟨rfl,out,na,nb,0,0,rfl,i,Zaf _⟩) ?_)
 ·rintro k d st' _ hk' ⟨rfl,o2,i2,j2,ac,bc,rfl,I,hn⟩;have:=I.a0;refine Zbd (Oh (c:=(none,i2,j2,o2,ac,bc)) hc hk o I) λe st' p=>?_;obtain⟨rfl,p⟩:=p
  match e,p with
  |.done (some o3,x),p=>exact⟨rfl,.inl ⟨o3,x,rfl,p⟩⟩
  |.done (none,i3,j3,o3,a3,b3),p=>exact⟨rfl,.inr ⟨o3,i3,j3,a3,b3,rfl,p.1,by have:i3+j3<=i2+j2-1:=p.2;lia⟩⟩
  |.yield (none,i3,j3,o3,a3,b3),p=>exact⟨rfl,o3,i3,j3,a3,b3,rfl,p.1,by have:i3+j3<=i2+j2-1:=p.2;lia⟩
  |.yield (some _,_),p=>exact p.elim
 ·rintro d st' ⟨rfl,o2,i2,j2,ac,bc,rfl,I,hn⟩;exact⟨rfl,.inr ⟨o2,i2,j2,ac,bc,rfl,I,by lia⟩⟩
 ·rintro d st' ⟨rfl,⟨o2,x,rfl,G⟩|⟨o2,i2,j2,ac,bc,rfl,I,hn⟩⟩
  ·exact Zax ⟨⟨gallopOf st',rfl⟩,G⟩
  ·dsimp only;refine Zao (jG ?_);refine Zao (Zbd (Zbh (I:=λk e st2=>(∃ g,st2=bV st' g)/\∃ o2 i2 j2 mg ac bc,e=((none,i2,j2,o2,mg,ac,bc):T7)/\Ih r a b o2 i2 j2/\i2+j2<=na+nb-1)
    (Q:=λe st2=>(∃ g,st2=bV st' g)/\((∃ o2 x,e=((some o2,x):T7)/\Good r a b o2)\/∃ o2 i2 j2 mg ac bc,e=((none,i2,j2,o2,mg,ac,bc):T7)/\Ih r a b o2 i2 j2/\i2+j2<=na+nb-1)) ?_ ?_ ⟨⟨gallopOf st',rfl⟩,o2,i2,j2,_,ac,bc,rfl,I,hn⟩) ?_)
   ·rintro k e st2 _ _ ⟨⟨g,rfl⟩,o3,i3,j3,m3,a3,b3,rfl,I3,hn3⟩;refine Zbd (Og (c:=(none,i3,j3,o3,m3,a3,b3)) hc (show kindOf (bV st' g)=κ from hk) o I3) λe st3 p=>?_;obtain⟨⟨g2,rfl⟩,p⟩:=p
    match e,p with
    |.done (some o4,x),p=>exact⟨⟨g2,rfl⟩,.inl ⟨o4,x,rfl,p⟩⟩
    |.done (none,i4,j4,o4,m4,a4,b4),p=>exact⟨⟨g2,rfl⟩,.inr ⟨o4,i4,j4,m4,a4,b4,rfl,p.1,by have:i4+j4<=i3+j3-1:=p.2;lia⟩⟩
    |.yield (none,i4,j4,o4,m4,a4,b4),p=>exact⟨⟨g2,rfl⟩,o4,i4,j4,m4,a4,b4,rfl,p.1,by have:i4+j4<=i3+j3-1:=p.2;lia⟩
    |.yield (some _,_),p=>exact p.elim
   ·rintro e st2 ⟨G,o3,i3,j3,m3,a3,b3,rfl,I3,hn3⟩;exact⟨G,.inr ⟨o3,i3,j3,m3,a3,b3,rfl,I3,hn3⟩⟩
   ·rintro e st2 ⟨⟨g,rfl⟩,⟨o3,x,rfl,G⟩|⟨o3,i3,j3,m3,a3,b3,rfl,I3,hn3⟩⟩
    ·exact Zax ⟨⟨g,rfl⟩,G⟩
    ·dsimp only;rw[eO];refine Zao (wpS_modify ?_);exact Zax ⟨⟨_,rfl⟩,I3,hn3⟩
theorem zV(hc:Cmp prog w A s κ D r)(hk:kindOf st=κ)(a1:1<=a.size)(b1:1<=b.size)(o:ye D r a b)(hf:∀ x,a.toList[a.size-1]?=some x->∀ y∈b.toList,r y<r x){Q:Array Keyed->SortSt->Prop}
  (h:∀ out g,Good r a b out->Q out (bV st g)):wpS (model prog w) A E s (uA a b) Q st:=by
 rw[zT];unfold zR;refine Zao (jG ?_);obtain⟨x,ex,ex'⟩:=getL (l:=a) (i:=a.size-1) (by lia)
 refine Zao (bC ex' ?_);have m:Mh r a.toList b.toList (#[x]:Array Keyed).toList (a.size-1) b.size:=by
  have m0:Mh r a.toList b.toList (#[]:Array Keyed).toList a.size b.size:=⟨.nil,λ_ h=>(nomatch h),by simp⟩
  exact m0.a1 o.sa a1 ex λy hy=>hf x ex y (ZaW hy)
 by_cases q:a.size-1=0
 ·rw[Zal (by simpa using q)]
  exact Zax (h _ (gallopOf st) (zU o m (by lia) (Zaf _) (.inl q)))
 ·rw[Zak (by simpa using q)]
  by_cases q2:b.size=1
  ·rw[Zal (by simpa using q2)]
   exact Zax (h _ (gallopOf st) (Fl o m (by lia) (Zaf _) q2))
  ·rw[Zak (by simpa using q2)]
   refine Zao (wpS_get ?_);refine Zao (Zbd (Zbh (I:=λk c st'=>(∃ g,st'=bV st g)/\∃ out na nb mg,c=((none,na,nb,out,mg):T5)/\Ih r a b out na nb/\na+nb+k+1<=a.size+b.size)
    (Q:=λc st'=>(∃ g,st'=bV st g)/\∃ out x,c=((some out,x):T5)/\Good r a b out) ?_ ?_ ⟨⟨gallopOf st,rfl⟩,_,a.size-1,b.size,_,rfl,⟨m,by lia,by lia,by lia,Zaf _⟩,by lia⟩) ?_)
   ·rintro k c st' _ hk' ⟨⟨g,rfl⟩,out,na,nb,mg,rfl,I,hn⟩;have:=I.a0;refine Zbd (Oi (c:=(none,na,nb,out,mg)) hc (show kindOf (bV st g)=κ from hk) o I) λe st3 p=>?_;obtain⟨⟨g2,rfl⟩,p⟩:=p
    match e,p with
    |.done (some o4,x),p=>exact⟨⟨g2,rfl⟩,o4,x,rfl,p⟩
    |.done (none,_),p=>exact p.elim
    |.yield (none,i4,j4,o4,m4),p=>exact⟨⟨g2,rfl⟩,o4,i4,j4,m4,rfl,p.1,by have:i4+j4<=na+nb-1:=p.2;lia⟩
    |.yield (some _,_),p=>exact p.elim
   ·rintro c st' ⟨_,out,na,nb,mg,rfl,I,hn⟩;have:=I.a0;lia
   ·rintro c st' ⟨⟨g,rfl⟩,out,x,rfl,G⟩;exact Zax (h out g G)
end
theorem wA(i:Nat):∀ (M:List Keyed) (a:Array Keyed) (n:Nat),i+n+M.length<=a.size->((M.zipIdx n).foldl (λa (p:Keyed×Nat)=>a.setIfInBounds (i+p.2) p.1) a).toList=a.toList.take (i+n)++M++a.toList.drop (i+n+M.length)
 |[],a,n,_=>by simp
 |x::M,a,n,h=>by
  rw[ZaN] at h ⊢;rw[List.zipIdx_cons,List.foldl_cons,wA i M _ (n+1) (by rw[Array.size_setIfInBounds];lia),Array.toList_setIfInBounds]
  have e1:(a.toList.set (i+n) x).take (i+(n+1))=a.toList.take (i+n)++[x]:=by
   rw[show i+(n+1)=i+n+1 by lia,List.take_succ,List.take_set_of_le (Zaf _),Za8 (by simp;lia)]
   rfl
  have e2:(a.toList.set (i+n) x).drop (i+(n+1)+M.length)=a.toList.drop (i+n+(M.length+1)):=by
   rw[List.drop_set_of_lt (by lia),show i+(n+1)+M.length=i+n+(M.length+1) by lia]
  rw[e1,e2];simp
theorem Ko(M:List Keyed)(a:Array Keyed)(i:Nat)(h:i+M.length<=a.size):(M.zipIdx.foldl (λa (p:Keyed×Nat)=>a.setIfInBounds (i+p.2) p.1) a).toList=a.toList.take i++M++a.toList.drop (i+M.length):=wA i M a 0 h
section
variable{prog:Program}{w:World}{A:Around}{E:Value->Shared->Prop}{s:Shared}{κ:SortKind}{D:Keyed->Prop}{r:Keyed->Nat}{st:SortSt}
theorem Oj{M:Model}{st2:SortSt}{Q:PUnit->SortSt->Prop}(h:Q ⟨⟩ st2):wpS M A E s (set st2:StateT SortSt Sem PUnit) Q st:=by
 unfold wpS;rw[StateT.run_set];exact Zaj ⟨rfl,h⟩
def bI(l:List Keyed)(i j:Nat):List Keyed:=(l.take j).drop i
theorem tE(l:List Keyed)(i j:Nat):(l.drop i).take (j-i)=bI l i j:=by unfold bI;rw[List.drop_take]
theorem Rw(l:List Keyed){i j:Nat}(h:i<=j):l=l.take i++bI l i j++l.drop j:=by
 unfold bI
 conv=>lhs;rw[<-ZaL j l,<-ZaL i (l.take j)]
 rw[Zbz,Zbp h]
theorem gM(l:List Keyed){i j k:Nat}(h:i<=j)(h2:j<=k):bI l i k=bI l i j++bI l j k:=by
 unfold bI;rw[kJ (l.take k) h,Zbz,Zbp h2]
theorem uC(l:List Keyed)(i j n:Nat):(bI l i j).take n=bI l i (min (i+n) j):=by
 unfold bI;rw[List.take_drop,Zbz]
theorem uD(l:List Keyed)(i j n:Nat):(bI l i j).drop n=bI l (i+n) j:=by
 unfold bI;rw[List.drop_drop]
theorem jo(l:List Keyed){i j:Nat}(h:j<=l.length):(bI l i j).length=j-i:=by
 unfold bI;rw[List.length_drop,Zbw,Zbp h]
theorem rF(l:List Keyed){i j n:Nat}(h:i+n<j):(bI l i j)[n]?=l[i+n]?:=by
 unfold bI;rw[List.getElem?_drop,List.getElem?_take,Zal h]
theorem tG{l:List Keyed}{i j:Nat}{x:Keyed}(h:x∈bI l i j):x∈l:=ZaW (Za4 h)
def Unl(r:Keyed->Nat)(l:List Keyed):Prop:=l.Pairwise λx y=>r x≠r y
theorem Unl.parts{l:List Keyed}(u:Unl r l){i j k:Nat}(h:i<=j)(h2:j<=k):∀ x∈bI l i j,∀ y∈bI l j k,r x≠r y:=λx hx y hy=>by
 have:Unl r (bI l i k):=Zan ((ZaY _ _).trans (ZaU _ _)) u;rw[gM l h h2] at this;exact(Zap.mp this).2.2 x hx y hy
theorem zW{i sa na sb nb p1 p2:Nat}(hc:Cmp prog w A s κ D r)(hk:kindOf st=κ)(hf:failedOf st=none)(e1:(pendingOf st)[i]?=some (sa,na,p1))(e2:(pendingOf st)[i+1]?=some (sb,nb,p2))(hs:sb=sa+na)(n1:1<=na)(n2:1<=nb)(hz:sb+nb<=(arrOf st).size)
  (dm:∀ x∈(arrOf st).toList,D x)(un:Unl r (arrOf st).toList)(s1:Srt r (bI (arrOf st).toList sa sb))(s2:Srt r (bI (arrOf st).toList sb (sb+nb))){Q:Bool->SortSt->Prop}
  (h:∀ (M:List Keyed) arr' g,arr'.toList=(arrOf st).toList.take sa++M++(arrOf st).toList.drop (sb+nb)->M.Perm (bI (arrOf st).toList sa (sb+nb))->Srt r M->Q true (SortSt.mk' κ arr' (((pendingOf st).setIfInBounds i (sa,na+nb,p1)).eraseIdxIfInBounds (i+1)) g none)) :
  wpS (model prog w) A E s (mergeAt' i) Q st:=by
 obtain⟨kd,arr,pd,gl,fl⟩:=st;have hk:kd=κ:=hk;have hf:fl=none:=hf;subst hk hf;have ll:arr.toList.length=arr.size:=by simp
 have hz:sb+nb<=arr.size:=hz;have dm:∀ x∈arr.toList,D x:=dm;have un:Unl r arr.toList:=un;have s1:Srt r (bI arr.toList sa sb):=s1;have s2:Srt r (bI arr.toList sb (sb+nb)):=s2;rw[zN];refine Zao (wpS_get ?_);dsimp only;rw[e1,e2];dsimp only;refine Zao (Oj ?_);obtain⟨y0,ey,ey'⟩:=getL (l:=arr) (i:=sb) (by omega)
 refine Zao (bC ey' ?_);have ne12:=un.parts (i:=sa) (j:=sb) (k:=sb+nb) (by omega) (by omega)
 have my0:y0∈bI arr.toList sb (sb+nb):=ZaE (i:=0) (by rw[rF _ (by omega)];exact ey)
 have y0le:∀ z∈bI arr.toList sb (sb+nb),r y0<=r z:=λz hz'=>mj (i:=0) s2 (by rw[rF _ (by omega)];exact ey) z (by rw[Zbo];exact hz')
 refine Zao (gm (L:=bI arr.toList sa sb) hc rfl (by omega) (by omega) (by rw[<-tE,show sb-sa=na by omega]) (dm y0 (lJ ey)) (λz hz'=>⟨dm z (tG hz'),ne12 z hz' y0 my0⟩) s1 λk hk' g1 g2=>?_)
 dsimp only;have whole:∀ g,(∀ x∈bI arr.toList sa sb,∀ y∈bI arr.toList sb (sb+nb),r x<r y)->Q true (SortSt.mk' kd arr ((pd.setIfInBounds i (sa,na+nb,p1)).eraseIdxIfInBounds (i+1)) g none):=λg hlt=>by
  refine h (bI arr.toList sa (sb+nb)) arr g (Rw _ (by omega)) (List.Perm.refl _) ?_
  rw[gM _ (show sa<=sb by omega) (show sb<=sb+nb by omega)]
  exact Zap.mpr ⟨s1,s2,hlt⟩
 by_cases q1:na-k=0
 ·rw[Zal (by simpa using q1)]
  refine Zax (whole _ λx hx y hy=>?_);have:(bI arr.toList sa sb).take k=bI arr.toList sa sb:=Za9 (by rw[jo _ (by omega)];omega)
  rw[this] at g1;exact Zaw (g1 x hx) (y0le y hy)
 ·rw[Zak (by simpa using q1)]
  have es:sa+k+(na-k)-1=sb-1:=by omega
  rw[es];obtain⟨x1,ex,ex'⟩:=getL (l:=arr) (i:=sb-1) (by omega)
  refine Zao (bC ex' ?_);have exA:(bI arr.toList sa sb)[na-1]?=some x1:=by rw[rF _ (by omega),show sa+(na-1)=sb-1 by omega];exact ex
  have mx1:x1∈bI arr.toList sa sb:=ZaE exA;have x1le:∀ z∈bI arr.toList sa sb,r z<=r x1:=λz hz'=>mq (n:=na) s1 n1 exA z (by rw[Za9 (by rw[jo _ (by omega)];omega)];exact hz')
  refine Zao (gm (L:=bI arr.toList sb (sb+nb)) hc rfl (by omega) (by omega) (by rw[<-tE,ZbR]) (dm x1 (lJ ex)) (λz hz'=>⟨dm z (tG hz'),λe=>ne12 x1 mx1 z hz' e.symm⟩) s2 λm hm f1 f2=>?_)
  dsimp only;by_cases q2:m=0
  ·rw[Zal (by simpa using q2)]
   refine Zax (whole _ λx hx y hy=>?_);rw[q2,Zbo] at f2;exact Nat.lt_of_le_of_lt (x1le x hx) (f2 y hy)
  ·rw[Zak (by simpa using q2)]
   rw[uD] at g2 f2;rw[uC,Zbp (by omega)] at g1 f1
   have tx:(arr.extract (sa+k) sb).toList=bI arr.toList (sa+k) sb:=by rw[ext_toList arr _ _ (by omega) (by omega),tE]
   have ty:(arr.extract sb (sb+m)).toList=bI arr.toList sb (sb+m):=by rw[ext_toList arr _ _ (by omega) (by omega),tE]
   have zx:(arr.extract (sa+k) sb).size=na-k:=by rw[<-ZaC,tx,jo _ (by omega)];omega
   have zy:(arr.extract sb (sb+m)).size=m:=by rw[<-ZaC,ty,jo _ (by omega)];omega
   have sx:Srt r (bI arr.toList (sa+k) sb):=by
    rw[<-uD];exact Zan (ZaY _ _) s1
   have sy:Srt r (bI arr.toList sb (sb+m)):=by
    have:bI arr.toList sb (sb+m)=(bI arr.toList sb (sb+nb)).take m:=by rw[uC,Zbp (by omega)]
    rw[this];exact Zan (ZaU _ _) s2
   have inx:∀ z∈bI arr.toList (sa+k) sb,z∈bI arr.toList sa sb:=λz hz'=>by rw[<-uD] at hz';exact Za4 hz'
   have iny:∀ z∈bI arr.toList sb (sb+m),z∈bI arr.toList sb (sb+nb):=λz hz'=>by
    have:bI arr.toList sb (sb+m)=(bI arr.toList sb (sb+nb)).take m:=by rw[uC,Zbp (by omega)]
    rw[this] at hz';exact ZaW hz'
   have fy:∀ y,(arr.extract sb (sb+m)).toList[0]?=some y->∀ x∈(arr.extract (sa+k) sb).toList,r y<r x:=λy hy x hx=>by
    rw[ty,rF _ (by omega),Nat.add_zero,ey] at hy
    cases hy;rw[tx] at hx;exact g2 x hx
   have lx:∀ x,(arr.extract (sa+k) sb).toList[(arr.extract (sa+k) sb).size-1]?=some x->∀ y∈(arr.extract sb (sb+m)).toList,r y<r x:=λx hx y hy=>by
    rw[tx,zx,rF _ (by omega),show sa+k+(na-k-1)=sb-1 by omega,ex] at hx
    cases hx;rw[ty] at hy;exact f1 y hy
   have fin:∀ (out:Array Keyed) (g:Nat),Good r (arr.extract (sa+k) sb) (arr.extract sb (sb+m)) out->wpS (model prog w) A E s (do
     modify λs=>setArr s (out.toList.zipIdx.foldl (λa (p,j)=>a.setIfInBounds (sa+k+j) p) (arrOf s))
     return (failedOf (<-get)).isNone) Q (SortSt.mk' kd arr ((pd.setIfInBounds i (sa,na+nb,p1)).eraseIdxIfInBounds (i+1)) g none):=λout g G=>by
    refine Zao (wpS_modify (Zao (wpS_get (Zax ?_))));obtain⟨G1,G2⟩:=G;rw[tx,ty] at G2;have ol:out.toList.length=na-k+m:=by rw[G2.length_eq,List.length_append,jo _ (by omega),jo _ (by omega)];omega
    have fs:=Ko out.toList arr (sa+k) (by rw[ol];omega)
    rw[ol,show sa+k+(na-k+m)=sb+m by omega] at fs
    refine h (bI arr.toList sa (sa+k)++out.toList++bI arr.toList (sb+m) (sb+nb)) _ g ?_ ?_ ?_
    ·refine Eq.trans fs ?_;have t1:arr.toList.take (sa+k)=arr.toList.take sa++bI arr.toList sa (sa+k):=by
      have:=Rw (arr.toList.take (sa+k)) (i:=sa) (j:=sa+k) (by omega)
      rw[Zbz,Zbp (by omega),show(arr.toList.take (sa+k)).drop (sa+k)=[] from Zbn (by simp;omega),ZaS] at this
      unfold bI at this ⊢;rw[Zbz,Nat.min_self] at this;exact this
     have t2:arr.toList.drop (sb+m)=bI arr.toList (sb+m) (sb+nb)++arr.toList.drop (sb+nb):=kJ _ (by omega)
     rw[t1,t2];simp only[Zau]
    ·rw[gM arr.toList (show sa<=sa+k by omega) (show sa+k<=sb+nb by omega),gM arr.toList (show sa+k<=sb by omega) (show sb<=sb+nb by omega),gM arr.toList (show sb<=sb+m by omega) (show sb+m<=sb+nb by omega)]
     simp only[Zau];refine Zbe _ ?_;rw[<-Zau];exact ZbY _ G2
    ·have mo:∀ z∈out.toList,z∈bI arr.toList (sa+k) sb\/z∈bI arr.toList sb (sb+m):=λz hz'=>Zad.mp (G2.mem_iff.mp hz');have sA:Srt r (bI arr.toList sa (sa+k)++bI arr.toList (sa+k) sb):=by rw[<-gM _ (by omega) (by omega)];exact s1
     have sB:Srt r (bI arr.toList sb (sb+m)++bI arr.toList (sb+m) (sb+nb)):=by rw[<-gM _ (by omega) (by omega)];exact s2
     have pA:=Zap.mp sA;have pB:=Zap.mp sB;refine Zap.mpr ⟨Zap.mpr ⟨pA.1,G1,λx hx z hz'=>?_⟩,pB.2.1,λx hx y hy=>?_⟩
     ·rcases mo z hz' with q|q
      ·exact pA.2.2 x hx z q
      ·exact Zaw (g1 x hx) (y0le z (iny z q))
     ·rcases Zad.mp hx with q|q
      ·have hy':y∈bI arr.toList sb (sb+nb):=by rw[gM arr.toList (show sb<=sb+m by omega) (show sb+m<=sb+nb by omega)];exact Zad.mpr (.inr hy)
       exact Zaw (g1 x q) (y0le y hy')
      ·rcases mo x q with q|q
       ·exact Nat.lt_of_le_of_lt (x1le x (inx x q)) (f2 y hy)
       ·exact pB.2.2 x q y hy
   have nexy:∀ x∈(arr.extract (sa+k) sb).toList,∀ y∈(arr.extract sb (sb+m)).toList,r x≠r y:=λx hx y hy=>by
    rw[tx] at hx;rw[ty] at hy;exact ne12 x (inx x hx) y (iny y hy)
   have dax:∀ x∈(arr.extract (sa+k) sb).toList,D x:=λx hx=>by rw[tx] at hx;exact dm x (tG hx)
   have day:∀ x∈(arr.extract sb (sb+m)).toList,D x:=λx hx=>by rw[ty] at hx;exact dm x (tG hx)
   by_cases q3:na-k<=m
   ·rw[Zal q3];refine Zao (zQ hc rfl (by omega) (by omega) ⟨dax,day,by rw[tx];exact sx,by rw[ty];exact sy,nexy,lx⟩ fy λout g G=>?_)
    exact fin out g G
   ·rw[Zak q3];refine Zao (zV hc rfl (by omega) (by omega) ⟨dax,day,by rw[tx];exact sx,by rw[ty];exact sy,nexy,fy⟩ lx λout g G=>?_)
    exact fin out g G
end
def Rk(r:Keyed->Nat)(a:Array Keyed)(k:Nat):Nat:=match a[k]? with
 |some x=>r x
 |none=>0
def gf(r:Keyed->Nat)(a:Array Keyed)(i j:Nat):Prop:=∀ p q,i<=p->p<q->q<j->Rk r a p<Rk r a q
def TX(r:Keyed->Nat)(a:Array Keyed)(i j:Nat):Prop:=∀ p q,i<=p->p<q->q<j->Rk r a q<Rk r a p
theorem wB{r:Keyed->Nat}{a b:Array Keyed}{i j:Nat}(h:a[i]?=b[j]?):Rk r a i=Rk r b j:=by unfold Rk;rw[h]
theorem Fq{r:Keyed->Nat}{a:Array Keyed}{k:Nat}{x:Keyed}(h:a[k]?=some x):Rk r a k=r x:=by unfold Rk;rw[h]
theorem tH{r:Keyed->Nat}{a:Array Keyed}{i j:Nat}(h:j<=a.size):Srt r (bI a.toList i j)↔gf r a i j:=by
 have ll:a.toList.length=a.size:=by simp
 have cl:=jo a.toList (i:=i) (j:=j) (by lia)
 have at_:∀ p (hp:p<(bI a.toList i j).length),r ((bI a.toList i j)[p])=Rk r a (i+p):=λp hp=>by
  have e:(bI a.toList i j)[p]?=a[i+p]?:=by rw[rF _ (by lia),ZaK]
  rw[Zaa hp] at e;exact(Fq e.symm).symm
 constructor
 ·intro h1 p q h2 h3 h4;have:=Zbu.mp h1 (p-i) (q-i) (by lia) (by lia) (by lia)
  rw[at_ _ (by lia),at_ _ (by lia),show i+(p-i)=p by lia,show i+(q-i)=q by lia] at this
  exact this
 ·intro h1;refine Zbu.mpr λp q hp hq hpq=>?_;rw[at_ p hp,at_ q hq];exact h1 (i+p) (i+q) (by lia) (by lia) (by lia)
section
variable{prog:Program}{w:World}{A:Around}{E:Value->Shared->Prop}{s:Shared}{κ:SortKind}{D:Keyed->Prop}{r:Keyed->Nat}{st:SortSt}
structure Bs(D:Keyed->Prop)(r:Keyed->Nat)(a:Array Keyed):Prop where
 dm:∀ (k:Nat) x,a[k]?=some x->D x
 un:∀ p q,p<q->q<a.size->Rk r a p≠Rk r a q
theorem Bs.of{a:Array Keyed}(d:∀ x∈a.toList,D x)(u:Unl r a.toList):Bs D r a:=by
 refine⟨λk x h=>d x (ZaE (by rw[ZaK];exact h)),λp q h1 h2=>?_⟩
 have:=Zbu.mp u p q (by simp;lia) (by simp;lia) h1
 have e:∀ k (hk:k<a.size),Rk r a k=r (a.toList[k]'(by simpa using hk)):=λk hk=>Fq (by rw[Zar hk,Array.getElem_toList])
 rw[e p (by lia),e q h2]
 exact this
theorem Unl.perm{l m:List Keyed}(u:Unl r l)(p:m.Perm l):Unl r m:=(p.pairwise_iff (λh=>Zbs h)).mpr u
theorem Bs.perm{a b:Array Keyed}(d:∀ x∈a.toList,D x)(u:Unl r a.toList)(p:b.Perm a):Bs D r b:=
 have p:=Zbm.mp p
 Bs.of (λx hx=>d x (p.mem_iff.mp hx)) (u.perm p)
theorem iZ(hc:Cmp prog w A s κ D r)(hk:kindOf st=κ)(b:Bs D r (arrOf st)){i j:Nat}(hi:i<(arrOf st).size)(hj:j<(arrOf st).size){Q:Option Bool->SortSt->Prop}(h:Q (some (decide (Rk r (arrOf st) i<Rk r (arrOf st) j))) st):wpS (model prog w) A E s (ltAt' i j) Q st:=by
 obtain⟨x,ex⟩:∃ x,(arrOf st)[i]?=some x:=⟨_,Zar hi⟩;obtain⟨y,ey⟩:∃ y,(arrOf st)[j]?=some y:=⟨_,Zar hj⟩;rw[ltAt'_eq];refine Zao (wpS_get ?_);show wpS _ _ _ _ (do let x <-elem' (arrOf st) i;let y <-elem' (arrOf st) j;lt' x y) Q st
 refine Zao (bC ex (Zao (bC ey (uB hc hk (b.dm i x ex) (b.dm j y ey) ?_))));rw[Fq ex,Fq ey] at h;exact h
theorem gf.snoc{a:Array Keyed}{i j:Nat}(h:gf r a i j)(hij:i<j)(l:Rk r a (j-1)<Rk r a j):gf r a i (j+1):=λp q h1 h2 h3=>by
 by_cases e:q=j
 ·subst e;by_cases e2:p=q-1
  ·rw[e2];exact l
  ·exact ZbG (h p (q-1) h1 (by lia) (by lia)) l
 ·exact h p q h1 h2 (by lia)
theorem wpS_countRun{lo nrem:Nat}(hc:Cmp prog w A s κ D r)(hk:kindOf st=κ)(dm:∀ x∈(arrOf st).toList,D x)(un:Unl r (arrOf st).toList)(hn:1<=nrem)(hz:lo+nrem=(arrOf st).size){Q:Option Nat->SortSt->Prop}
  (h:∀ n arr',1<=n->n<=nrem->arr'.Perm (arrOf st)->(∀ k,k<lo->arr'[k]?=(arrOf st)[k]?)->gf r arr' lo (lo+n)->Q (some n) (setArr st arr')):wpS (model prog w) A E s (countRun' lo nrem) Q st:=by
 have b:=Bs.of dm un;rw[countRun'_eq];refine Zao (Zbd (Zbh (I:=λk c st'=>st'=st/\c=(none,k)/\gf r (arrOf st) lo (lo+k))
  (Q:=λc st'=>st'=st/\∃ n,c=(none,n)/\1<=n/\n<=nrem/\gf r (arrOf st) lo (lo+n)/\(n<nrem->Rk r (arrOf st) (lo+n)<Rk r (arrOf st) (lo+n-1))) ?_ ?_ ⟨rfl,rfl,λp q h1 h2 h3=>by lia⟩) ?_)
 ·rintro k c st' h1 h2 ⟨rfl,rfl,S⟩;dsimp only;refine Zao (iZ hc hk b (by lia) (by lia) ?_)
  dsimp only;by_cases q:Rk r (arrOf st') (lo+k)<Rk r (arrOf st') (lo+k-1)
  ·rw[ZaD q,Zal rfl];exact Zax ⟨rfl,k,rfl,h1,by lia,S,λ_=>q⟩
  ·rw[ZaH q,Zak (by decide)]
   refine Zax ⟨rfl,rfl,?_⟩;have:=b.un (lo+k-1) (lo+k) (by lia) (by lia)
   exact S.snoc (by lia) (by lia)
 ·rintro c st' ⟨rfl,rfl,S⟩;exact⟨rfl,_,rfl,by lia,by lia,S,λz=>by lia⟩
 ·rintro c st' ⟨rfl,n,rfl,h1,h2,S,hbr⟩;dsimp only;by_cases q1:n=nrem
  ·rw[Zal (by simpa using q1)]
   exact Zax (h n (arrOf st') h1 h2 (Array.Perm.refl _) (λ_ _=>rfl) S)
  ·rw[Zak (by simpa using q1)]
   by_cases q2:n>1
   ·rw[Zal q2];refine Zao (iZ hc hk b (by lia) (by lia) ?_)
    dsimp only;rw[ZaD (S lo (lo+n-1) (Zaf _) (by lia) (by lia)),Zal rfl]
    exact Zax (h n (arrOf st') h1 h2 (Array.Perm.refl _) (λ_ _=>rfl) S)
   ·rw[Zak q2];have n1:n=1:=by lia
    subst n1;have hbr:=hbr (by lia)
    refine Zao (jG ?_);refine Zao (Zbd (Zbh (I:=λk c st2=>st2=st'/\c=(none,k,0)/\TX r (arrOf st') lo (lo+k))
     (Q:=λc st2=>st2=st'/\∃ n,c=(none,n,0)/\2<=n/\n<=nrem/\TX r (arrOf st') lo (lo+n)) ?_ ?_ ⟨rfl,rfl,λp q h1 h2 h3=>by
      have e1:p=lo+1-1:=by lia
      have e2:q=lo+1:=by lia
      rw[e1,e2];exact hbr⟩) ?_)
    ·rintro k c st2 g1 g2 ⟨rfl,rfl,S2⟩;dsimp only;refine Zao (iZ hc hk b (by lia) (by lia) ?_)
     dsimp only;by_cases q:Rk r (arrOf st2) (lo+k)<Rk r (arrOf st2) (lo+k-1)
     ·rw[ZaD q,Zal rfl,Zak (by lia)]
      refine Zax ⟨rfl,rfl,λp q' h1 h2 h3=>?_⟩;by_cases e:q'=lo+k
      ·subst e;by_cases e2:p=lo+k-1
       ·rw[e2];exact q
       ·exact ZbG q (S2 p (lo+k-1) h1 (by lia) (by lia))
      ·exact S2 p q' h1 h2 (by lia)
     ·rw[ZaH q,Zak (by decide)]
      refine Zao (iZ hc hk b (by lia) (by lia) ?_)
      dsimp only;have:=b.un (lo+k-1) (lo+k) (by lia) (by lia)
      rw[ZaD (show Rk r (arrOf st2) (lo+k-1)<Rk r (arrOf st2) (lo+k) by lia),Zal rfl]
      exact Zax ⟨rfl,k,rfl,by lia,by lia,S2⟩
    ·rintro c st2 ⟨rfl,rfl,S2⟩;exact⟨rfl,_,rfl,by lia,by lia,S2⟩
    ·rintro c st2 ⟨rfl,n,rfl,g1,g2,S2⟩;dsimp only;rw[Zak (by lia),reverseSlice'_eq]
     refine Zao (wpS_modify ?_);have mz:=mirror_size (arrOf st2) lo (lo+n) ((lo+n-lo)/2);have mp:=mirror_perm (arrOf st2) lo (lo+n) ((lo+n-lo)/2);have mg:=getElem?_mirror_all (xs:=arrOf st2) (i:=lo) (j:=lo+n) (by lia)
     generalize mirror (arrOf st2) lo (lo+n) ((lo+n-lo)/2)=a2 at mz mp mg
     have b2:Bs D r a2:=Bs.perm dm un mp;have pre:∀ k,k<lo->a2[k]?=(arrOf st2)[k]?:=λk hk2=>by rw[mg,Zak (by lia)]
     have S3:gf r a2 lo (lo+n):=λp q h1 h2 h3=>by
      have rp:∀ p,lo<=p->p<lo+n->Rk r a2 p=Rk r (arrOf st2) (lo+(lo+n)-1-p):=λp g3 g4=>wB (by rw[mg,Zal ⟨g3,g4⟩])
      rw[rp p h1 (by lia),rp q (by lia) h3]
      exact S2 _ _ (by lia) (by lia) (by lia)
     refine Zao (Zbd (Zbh (I:=λk c st3=>st3=setArr st2 a2/\c=(none,k)/\gf r a2 lo (lo+k))
      (Q:=λc st3=>st3=setArr st2 a2/\∃ m,c=(none,m)/\n<=m/\m<=nrem/\gf r a2 lo (lo+m)) ?_ ?_ ⟨rfl,rfl,S3⟩) ?_)
     ·rintro k c st3 f1 f2 ⟨rfl,rfl,S⟩;dsimp only;refine Zao (iZ (st:=setArr st2 a2) hc hk b2 (by show _<a2.size;lia) (by show _<a2.size;lia) ?_)
      dsimp only;by_cases q:Rk r a2 (lo+k)<Rk r a2 (lo+k-1)
      ·rw[show arrOf (setArr st2 a2)=a2 from rfl,ZaD q,Zal rfl];exact Zax ⟨rfl,k,rfl,f1,by lia,S⟩
      ·rw[show arrOf (setArr st2 a2)=a2 from rfl,ZaH q,Zak (by decide)]
       refine Zax ⟨rfl,rfl,?_⟩;have:=b2.un (lo+k-1) (lo+k) (by lia) (by lia)
       exact S.snoc (by lia) (by lia)
     ·rintro c st3 ⟨rfl,rfl,S⟩;exact⟨rfl,_,rfl,by lia,by lia,S⟩
     ·rintro c st3 ⟨rfl,m,rfl,f1,f2,S⟩;exact Zax (h m a2 (by lia) f2 mp pre S)
theorem wpS_binarySort{lo n ok:Nat}(hc:Cmp prog w A s κ D r)(hk:kindOf st=κ)(dm:∀ x∈(arrOf st).toList,D x)(un:Unl r (arrOf st).toList)(h1:1<=ok)(h2:ok<=n)(hz:lo+n<=(arrOf st).size)(S:gf r (arrOf st) lo (lo+ok)){Q:Bool->SortSt->Prop}
  (h:∀ arr',arr'.Perm (arrOf st)->(∀ k,k<lo->arr'[k]?=(arrOf st)[k]?)->gf r arr' lo (lo+n)->Q true (setArr st arr')):wpS (model prog w) A E s (binarySort' lo n ok) Q st:=by
 rw[binarySort'_eq];refine Zao (Zbd (Zbh (I:=λk c st'=>c=(none,())/\∃ arr',st'=setArr st arr'/\arr'.Perm (arrOf st)/\(∀ k,k<lo->arr'[k]?=(arrOf st)[k]?)/\gf r arr' lo (lo+k))
  (Q:=λc st'=>c=(none,())/\∃ arr',st'=setArr st arr'/\arr'.Perm (arrOf st)/\(∀ k,k<lo->arr'[k]?=(arrOf st)[k]?)/\gf r arr' lo (lo+n)) ?_ ?_ ⟨rfl,arrOf st,rfl,Array.Perm.refl _,λ_ _=>rfl,by rw[Nat.max_eq_left h1];exact S⟩) ?_)
 ·rintro k c st' g1 g2 ⟨rfl,a2,rfl,p2,pre,S2⟩;have z2:a2.size=(arrOf st).size:=p2.size_eq;have b2:Bs D r a2:=Bs.perm dm un p2;have kl:lo+k<a2.size:=by omega
  refine Zao (Zbd (Zbh (I:=λt c st2=>st2=setArr st a2/\∃ l e,c=((none:Option Bool),l,e)/\l<=e/\e<=k/\(∀ i,i<l->Rk r a2 (lo+i)<Rk r a2 (lo+k))/\(∀ i,e<=i->i<k->Rk r a2 (lo+k)<Rk r a2 (lo+i))/\e-l+t<=k)
   (Q:=λc st2=>st2=setArr st a2/\∃ l,c=((none:Option Bool),l,l)/\l<=k/\(∀ i,i<l->Rk r a2 (lo+i)<Rk r a2 (lo+k))/\(∀ i,l<=i->i<k->Rk r a2 (lo+k)<Rk r a2 (lo+i))) ?_ ?_ ⟨rfl,0,k,rfl,by omega,Zaf _,λi hi=>by omega,λi h3 h4=>by omega,by omega⟩) ?_)
  ·rintro t c st2 _ ht ⟨rfl,l,e,rfl,f1,f2,f3,f4,f5⟩;dsimp only;by_cases q:l>=e
   ·rw[Zal q];have:l=e:=by omega
    subst this;exact Zax ⟨rfl,l,rfl,f2,f3,f4⟩
   ·rw[Zak q];refine Zao (iZ (st:=setArr st a2) hc hk b2 (by show _<a2.size;omega) (by show _<a2.size;omega) ?_)
    dsimp only;rw[show arrOf (setArr st a2)=a2 from rfl];by_cases q2:Rk r a2 (lo+k)<Rk r a2 (lo+(l+e)/2)
    ·rw[ZaD q2,Zal rfl];refine Zax ⟨rfl,l,(l+e)/2,rfl,by omega,by omega,f3,λi h3 h4=>?_,by omega⟩
     by_cases q3:i=(l+e)/2
     ·rw[q3];exact q2
     ·exact ZbG q2 (S2 _ _ (by omega) (by omega) (by omega))
    ·rw[ZaH q2,Zak (by decide)]
     have ne:=b2.un (lo+(l+e)/2) (lo+k) (by omega) kl
     refine Zax ⟨rfl,(l+e)/2+1,e,rfl,by omega,f2,λi hi=>?_,f4,by omega⟩
     by_cases q3:i=(l+e)/2
     ·rw[q3];omega
     ·exact ZbG (S2 (lo+i) (lo+(l+e)/2) (by omega) (by omega) (by omega)) (by omega)
  ·rintro c st2 ⟨rfl,l,e,rfl,f1,f2,f3,f4,f5⟩;have:l=e:=by omega
   subst this;exact⟨rfl,l,rfl,f2,f3,f4⟩
  ·rintro c st2 ⟨rfl,l,rfl,f1,f2,f3⟩;dsimp only;rw[moveDown'_eq];refine Zao (wpS_modify (Zax ?_));have bz:=bubble_perm a2 (lo+k) (lo+k-(lo+l));have bg:=getElem?_bubble (xs:=a2) (src:=lo+k) kl (lo+k-(lo+l)) (by omega)
   refine⟨rfl,bubble a2 (lo+k) (lo+k-(lo+l)),rfl,bz.trans p2,?_,?_⟩
   ·intro i hi;rw[bg,Zak (by omega),Zak (by omega)]
    exact pre i hi
   ·generalize bubble a2 (lo+k) (lo+k-(lo+l))=a3 at bg
    rw[show lo+k-(lo+k-(lo+l))=lo+l by omega] at bg
    have rk3:∀ i,Rk r a3 i=if i=lo+l then Rk r a2 (lo+k) else if lo+l<i/\i<=lo+k then Rk r a2 (i-1) else Rk r a2 i:=λi=>by
     have:=bg i;split at this
     ·rename_i e;rw[Zal e];exact wB this
     ·rename_i e;rw[Zak e];split at this
      ·rename_i e2;rw[Zal e2];exact wB this
      ·rename_i e2;rw[Zak e2];exact wB this
    intro p q h3 h4 h5;rw[rk3 p,rk3 q];by_cases p1:p=lo+l
    ·rw[Zal p1,Zak (by omega),Zal (by omega)]
     have:=f3 (q-1-lo) (by omega) (by omega)
     rw[show lo+(q-1-lo)=q-1 by omega] at this
     exact this
    ·rw[Zak p1];by_cases p2':lo+l<p
     ·rw[Zal ⟨p2',by omega⟩,Zak (by omega),Zal (by omega)]
      exact S2 _ _ (by omega) (by omega) (by omega)
     ·rw[Zak (by omega)]
      by_cases q1:q=lo+l
      ·rw[Zal q1];have:=f2 (p-lo) (by omega)
       rw[show lo+(p-lo)=p by omega] at this
       exact this
      ·rw[Zak q1];by_cases q2:lo+l<q
       ·rw[Zal ⟨q2,by omega⟩]
        exact S2 _ _ h3 (by omega) (by omega)
       ·rw[Zak (by omega)]
        exact S2 _ _ h3 h4 (by omega)
 ·rintro c st' ⟨rfl,a2,rfl,p2,pre,S2⟩;refine⟨rfl,a2,rfl,p2,pre,?_⟩;rw[show max (max ok 1) n=n by omega] at S2
  exact S2
 ·rintro c st' ⟨rfl,a2,rfl,p2,pre,S2⟩;exact Zax (h a2 p2 pre S2)
end
def qe(pw:Nat):StateT SortSt Sem (ForInStep (Option Unit×Unit)):=do
 let s <-get
 match(if(pendingOf s).size>1 then(pendingOf s)[(pendingOf s).size-2]? else none) with
 |some x=>if x.2.2<=pw then pure (.done (none,())) else do
  let ok <-mergeAt' ((pendingOf s).size-2)
  if(!ok)=true then pure (.done (some (),())) else pure (.yield (none,()))
 |none=>pure (.done (none,()))
def nR(lo n:Nat):StateT SortSt Sem (ForInStep (Option Unit×Nat)):=do
 modify λs=>setPending s ((pendingOf s).push (lo,n,0))
 pure (.yield (none,lo+n))
def lay(size lo n:Nat):StateT SortSt Sem (ForInStep (Option Unit×Nat)):=do
 let s <-get
 match(pendingOf s).back? with
 |some x=>do
  let c <-forIn [0:size] ((none:Option Unit),()) λ_ _=>qe (power' size (2*x.1+x.2.1) (2*x.1+x.2.1+x.2.1+n) size)
  match c.1 with
  |some r=>pure (.done (some r,lo))
  |none=>do
   modify λs=>setPending s ((pendingOf s).modify ((pendingOf s).size-1) λy=>(y.1,y.2.1,power' size (2*x.1+x.2.1) (2*x.1+x.2.1+x.2.1+n) size))
   nR lo n
 |none=>nR lo n
def Kp(s:SortSt):Nat:=if Option.any (λx=>decide (x<(pendingOf s)[(pendingOf s).size-2+1]?.elim 0 λx=>x.2.1)) (if(pendingOf s).size-2>0 then Option.map (λx=>x.2.1) (pendingOf s)[(pendingOf s).size-2-1]? else none)=true then(pendingOf s).size-2-1 else(pendingOf s).size-2
def Ft:StateT SortSt Sem (ForInStep (Option Unit×Unit)):=do
 let s <-get
 if(pendingOf s).size<=1 then pure (.done (none,())) else do
  let ok <-mergeAt' (Kp s)
  if(!ok)=true then pure (.done (some (),())) else pure (.yield (none,()))
def tK(z:Nat)(c:Option Unit×Nat):StateT SortSt Sem (ForInStep (Option Unit×Nat)):=if c.2>=z then pure (.done (none,c.2)) else(do
 let x <-countRun' c.2 (z-c.2)
 match x with
 |some found=>if found<minRun' z z 0 then(do
   rule "list.sort.binary-insertion"
   let ok <-binarySort' c.2 (min (z-c.2) (minRun' z z 0)) found
   if(!ok)=true then pure (.done (some (),c.2)) else lay z c.2 (min (z-c.2) (minRun' z z 0))) else lay z c.2 found
 |none=>pure (.done (some (),c.2)))
def rG:StateT SortSt Sem Unit:=do
 let s <-get
 let c <-forIn [0:(arrOf s).size] ((none:Option Unit),0) λ_ c=>tK (arrOf s).size c
 match c.1 with
 |some r=>pure r
 |none=>do
  let d <-forIn [0:(arrOf s).size] ((none:Option Unit),()) λ_ _=>Ft
  match d.1 with
  |some r=>pure r
  |none=>pure ()
theorem yf:sortRuns'=rG:=by
 rw[sortRuns'_eq];unfold rG;dsimp only;congr 1;funext s
 congr 1
 ·congr 1
  funext _ c
  obtain⟨c0,lo⟩:=c;unfold tK;dsimp only;congr 1
  congr 1;funext x
  cases x with
  |none=>rfl
  |some found=>
   dsimp only;congr 1
   ·congr 1;funext _
    congr 1;funext ok
    congr 1
    unfold lay nR;congr 1;funext s2
    cases (pendingOf s2).back? with
    |none=>rfl
    |some x=>
     obtain⟨s1,n1,p⟩:=x;dsimp only;congr 1
     ·congr 1
      funext _ d
      unfold qe;congr 1;funext s3
      cases (if(pendingOf s3).size>1 then(pendingOf s3)[(pendingOf s3).size-2]? else none) with
      |none=>rfl
      |some y=>obtain⟨y1,y2,y3⟩:=y;rfl
     ·funext c
      obtain⟨c0,_⟩:=c;cases c0<;>rfl
   ·unfold lay nR;congr 1;funext s2
    cases (pendingOf s2).back? with
    |none=>rfl
    |some x=>
     obtain⟨s1,n1,p⟩:=x;dsimp only;congr 1
     ·congr 1
      funext _ d
      unfold qe;congr 1;funext s3
      cases (if(pendingOf s3).size>1 then(pendingOf s3)[(pendingOf s3).size-2]? else none) with
      |none=>rfl
      |some y=>obtain⟨y1,y2,y3⟩:=y;rfl
     ·funext c
      obtain⟨c0,_⟩:=c;cases c0<;>rfl
 ·funext c
  obtain⟨c0,lo⟩:=c;cases c0 with
  |some r=>rfl
  |none=>
   dsimp only;congr 1
   funext d
   obtain⟨d0,_⟩:=d;cases d0<;>rfl
noncomputable abbrev Pd:=Nat×Nat×Nat
def Rn(r:Keyed->Nat)(a:Array Keyed):Nat->List Pd->Nat->Prop
 |s,[],e=>s=e
 |s,x::l,e=>x.1=s/\1<=x.2.1/\gf r a s (s+x.2.1)/\Rn r a (s+x.2.1) l e
section
variable{r:Keyed->Nat}{a b:Array Keyed}
theorem Rn.le:∀ {l:List Pd}{s e:Nat},Rn r a s l e->s+l.length<=e
 |[],s,e,h=>by cases h;simp
 |x::l,s,e,h=>by
  have:=h.2.2.2.le;have:=h.2.1;simp only[ZaN];omega
theorem Rn.app:∀ {l m:List Pd}{s e:Nat},Rn r a s (l++m) e↔∃ k,Rn r a s l k/\Rn r a k m e
 |[],m,s,e=>⟨λh=>⟨s,rfl,h⟩,λ⟨k,h1,h2⟩=>by cases h1;exact h2⟩
 |x::l,m,s,e=>by
  constructor
  ·rintro⟨h1,h2,h3,h4⟩;obtain⟨k,g1,g2⟩:=Rn.app.mp h4;exact⟨k,⟨h1,h2,h3,g1⟩,g2⟩
  ·rintro⟨k,⟨h1,h2,h3,h4⟩,g2⟩;exact⟨h1,h2,h3,Rn.app.mpr ⟨k,h4,g2⟩⟩
theorem gf.congr{i j:Nat}(h:∀ k,i<=k->k<j->b[k]?=a[k]?)(S:gf r a i j):gf r b i j:=λp q h1 h2 h3=>by
 rw[wB (h p h1 (by lia)),wB (h q (by lia) h3)]
 exact S p q h1 h2 h3
theorem Rn.congr:∀ {l:List Pd}{s e:Nat},(∀ k,s<=k->k<e->b[k]?=a[k]?)->Rn r a s l e->Rn r b s l e
 |[],_,_,_,h=>h
 |x::l,s,e,hk,⟨h1,h2,h3,h4⟩=>by
  have:=h4.le;exact⟨h1,h2,h3.congr λk g1 g2=>hk k g1 (by lia),Rn.congr (λk g1 g2=>hk k (by lia) g2) h4⟩
theorem Kq{l:List Pd}{i:Nat}{x y:Pd}(e1:l[i]?=some x)(e2:l[i+1]?=some y):l=l.take i++x::y::l.drop (i+2):=by
 have h1:=(ZaB.mp e1).1;have h2:=(ZaB.mp e2).1
 conv=>lhs;rw[<-ZaL i l]
 congr 1
 rw[Za7 h1,Za7 h2];rw[Zaa h1] at e1;rw[Zaa h2] at e2;rw[Zah e1,Zah e2]
theorem Hq{l:List Pd}{i:Nat}{x y z:Pd}(e1:l[i]?=some x)(e2:l[i+1]?=some y):(l.set i z).eraseIdx (i+1)=l.take i++z::l.drop (i+2):=by
 have h2:=(ZaB.mp e2).1;have hl:(l.take i).length=i:=by simp;lia
 conv=>lhs;rw[Kq e1 e2]
 rw[List.set_append_right _ _ (by lia),hl,Nat.sub_self,List.set_cons_zero,List.eraseIdx_append_of_length_le (by lia),hl,ZbR]
 rfl
end
section
variable{prog:Program}{w:World}{A:Around}{E:Value->Shared->Prop}{s:Shared}{κ:SortKind}{D:Keyed->Prop}{r:Keyed->Nat}{st:SortSt}{a0:Array Keyed}
structure Rs(κ:SortKind)(r:Keyed->Nat)(a0:Array Keyed)(lo:Nat)(st:SortSt):Prop where
 kd:kindOf st=κ
 fl:failedOf st=none
 pm:(arrOf st).Perm a0
 rn:Rn r (arrOf st) 0 (pendingOf st).toList lo
 le:lo<=a0.size
theorem Kr{i lo:Nat}(hc:Cmp prog w A s κ D r)(dm:∀ x∈a0.toList,D x)(un:Unl r a0.toList)(R:Rs κ r a0 lo st)(hi:i+1<(pendingOf st).size){Q:Bool->SortSt->Prop}
  (h:∀ st',Rs κ r a0 lo st'->(pendingOf st').size+1=(pendingOf st).size->(∀ k,lo<=k->(arrOf st')[k]?=(arrOf st)[k]?)->Q true st'):wpS (model prog w) A E s (mergeAt' i) Q st:=by
 obtain⟨kd,fl,pm,rn,le⟩:=R;have sz:(arrOf st).size=a0.size:=pm.size_eq;have pl:=Zbm.mp pm;obtain⟨⟨sa,na,p1⟩,e1⟩:∃ x,(pendingOf st)[i]?=some x:=⟨_,Zar (by lia)⟩
 obtain⟨⟨sb,nb,p2⟩,e2⟩:∃ x,(pendingOf st)[i+1]?=some x:=⟨_,Zar hi⟩;have f1:(pendingOf st).toList[i]?=some (sa,na,p1):=by rw[ZaK];exact e1
 have f2:(pendingOf st).toList[i+1]?=some (sb,nb,p2):=by rw[ZaK];exact e2
 rw[Kq f1 f2] at rn;obtain⟨k0,r1,q1,q2,q3,q4,q5,q6,r2⟩:=Rn.app.mp rn;have q1:sa=k0:=q1;subst q1;have q4:sb=sa+na:=q4;have q2:1<=na:=q2;have q5:1<=nb:=q5;have q3:gf r (arrOf st) sa (sa+na):=q3;have q6:gf r (arrOf st) (sa+na) (sa+na+nb):=q6;have r2:Rn r (arrOf st) (sa+na+nb) ((pendingOf st).toList.drop (i+2)) lo:=r2;have b1:=r1.le;have b2:=r2.le;subst q4;refine zW hc kd fl e1 e2 rfl q2 q5 (by lia) (λx hx=>dm x (pl.mem_iff.mp hx)) (un.perm pl) ((tH (by lia)).mpr q3) ((tH (by lia)).mpr q6) λM arr' g eq pM sM=>?_
 have ll:(arrOf st).toList.length=(arrOf st).size:=by simp
 have ml:M.length=na+nb:=by rw[pM.length_eq,jo _ (by lia)];lia
 have tl:((arrOf st).toList.take sa).length=sa:=by simp;lia
 have low:∀ k,k<sa->arr'[k]?=(arrOf st)[k]?:=λk hk=>by
  rw[<-ZaK,eq,Zau,ZaF (by lia),List.getElem?_take,Zal hk,ZaK]
 have high:∀ k,sa+na+nb<=k->arr'[k]?=(arrOf st)[k]?:=λk hk=>by
  rw[<-ZaK,eq,ZaG (by rw[List.length_append];lia),List.length_append,tl,ml,List.getElem?_drop,show sa+na+nb+(k-(sa+(na+nb)))=k by lia,ZaK]
 have ap:arr'.Perm (arrOf st):=by
  rw[Zbm,eq]
  conv=>rhs;rw[Rw (arrOf st).toList (show sa<=sa+na+nb by lia)]
  exact ZbY _ (Zbe _ pM)
 have az:arr'.size=(arrOf st).size:=ap.size_eq;have mid:gf r arr' sa (sa+(na+nb)):=by
  refine(tH (by lia)).mp ?_
  have:bI arr'.toList sa (sa+(na+nb))=M:=by
   unfold bI;rw[eq,List.take_append_of_le_length (by rw[List.length_append];lia),Za9 (by rw[List.length_append];lia),List.drop_append_of_le_length (by lia),Zbn (by lia),List.nil_append]
  rw[this];exact sM
 have pe:(((pendingOf st).setIfInBounds i (sa,na+nb,p1)).eraseIdxIfInBounds (i+1)).toList=(pendingOf st).toList.take i++(sa,na+nb,p1)::(pendingOf st).toList.drop (i+2):=by
  rw[Array.toList_eraseIdxIfInBounds,Array.toList_setIfInBounds];exact Hq f1 f2
 refine h _ ⟨rfl,rfl,ap.trans pm,?_,le⟩ ?_ λk hk=>high k (by lia)
 ·show Rn r arr' 0 (((pendingOf st).setIfInBounds i (sa,na+nb,p1)).eraseIdxIfInBounds (i+1)).toList lo
  rw[pe];refine Rn.app.mpr ⟨sa,r1.congr λk _ hk=>low k hk,rfl,by show 1<=na+nb;lia,mid,?_⟩
  show Rn r arr' (sa+(na+nb)) _ lo
  rw[show sa+(na+nb)=sa+na+nb by lia]
  exact r2.congr λk hk _=>high k hk
 ·show(((pendingOf st).setIfInBounds i (sa,na+nb,p1)).eraseIdxIfInBounds (i+1)).size+1=_
  rw[<-ZaC,pe];have:(pendingOf st).toList.length=(pendingOf st).size:=by simp
  simp;lia
end
section
variable{prog:Program}{w:World}{A:Around}{E:Value->Shared->Prop}{s:Shared}{κ:SortKind}{D:Keyed->Prop}{r:Keyed->Nat}{st:SortSt}{a0:Array Keyed}
theorem Rn.mod{a:Array Keyed}{f:Pd->Pd}(hf:∀ x,(f x).1=x.1/\(f x).2.1=x.2.1):∀ {l:List Pd}{i s e:Nat},Rn r a s l e->Rn r a s (l.modify i f) e
 |[],_,_,_,h=>by simpa using h
 |x::l,0,s,e,⟨h1,h2,h3,h4⟩=>by
  rw[List.modify_zero_cons];exact⟨(hf x).1.trans h1,by rw[(hf x).2];exact h2,by rw[(hf x).2];exact h3,by rw[(hf x).2];exact h4⟩
 |x::l,i+1,s,e,⟨h1,h2,h3,h4⟩=>by
  rw[List.modify_succ_cons];exact⟨h1,h2,h3,Rn.mod hf h4⟩
theorem uE{M:Model}{lo n:Nat}(R:Rs κ r a0 lo st)(S:gf r (arrOf st) lo (lo+n))(n1:1<=n)(hz:lo+n<=a0.size){Q:ForInStep (Option Unit×Nat)->SortSt->Prop}(h:∀ st',Rs κ r a0 (lo+n) st'->Q (.yield (none,lo+n)) st'):wpS M A E s (nR lo n) Q st:=by
 unfold nR;refine Zao (wpS_modify (Zax (h _ ⟨R.kd,R.fl,R.pm,?_,hz⟩)));show Rn r (arrOf st) 0 ((pendingOf st).push (lo,n,0)).toList (lo+n)
 rw[Zbk];exact Rn.app.mpr ⟨lo,R.rn,rfl,n1,S,rfl⟩
theorem Cw{pw lo n:Nat}(hc:Cmp prog w A s κ D r)(dm:∀ x∈a0.toList,D x)(un:Unl r a0.toList)(R:Rs κ r a0 lo st)(S:gf r (arrOf st) lo (lo+n)) :
  wpS (model prog w) A E s (qe pw) (λc st'=>(c=.done (none,())\/c=.yield (none,()))/\Rs κ r a0 lo st'/\gf r (arrOf st') lo (lo+n)) st:=by
 unfold qe;refine Zao (wpS_get ?_);by_cases q:(pendingOf st).size>1
 ·rw[Zal q];cases (pendingOf st)[(pendingOf st).size-2]? with
  |none=>exact Zax ⟨.inl rfl,R,S⟩
  |some x=>
   dsimp only;split
   ·exact Zax ⟨.inl rfl,R,S⟩
   ·refine Zao (Kr hc dm un R (by omega) λst' R' _ hk=>?_)
    rw[Zak (by decide)]
    exact Zax ⟨.inr rfl,R',S.congr λk g1 _=>hk k g1⟩
 ·rw[Zak q];exact Zax ⟨.inl rfl,R,S⟩
theorem Ks{z lo n:Nat}(hc:Cmp prog w A s κ D r)(dm:∀ x∈a0.toList,D x)(un:Unl r a0.toList)(R:Rs κ r a0 lo st)(S:gf r (arrOf st) lo (lo+n))(n1:1<=n)(hz:lo+n<=a0.size){Q:ForInStep (Option Unit×Nat)->SortSt->Prop}(h:∀ st',Rs κ r a0 (lo+n) st'->Q (.yield (none,lo+n)) st'):wpS (model prog w) A E s (lay z lo n) Q st:=by
 unfold lay;refine Zao (wpS_get ?_);cases (pendingOf st).back? with
 |none=>exact uE R S n1 hz h
 |some x=>
  dsimp only;refine Zao (Zbd (Zbh (I:=λ_ c st'=>c=(none,())/\Rs κ r a0 lo st'/\gf r (arrOf st') lo (lo+n)) (Q:=λc st'=>c=(none,())/\Rs κ r a0 lo st'/\gf r (arrOf st') lo (lo+n)) ?_ (λ_ _ g=>g) ⟨rfl,R,S⟩) ?_)
  ·rintro k c st' _ _ ⟨rfl,R',S'⟩;refine Zbd (Cw hc dm un R' S') λc st2 p=>?_;rcases p.1 with rfl|rfl
   ·exact⟨rfl,p.2⟩
   ·exact⟨rfl,p.2⟩
  ·rintro c st' ⟨rfl,R',S'⟩;dsimp only;refine Zao (wpS_modify ?_);generalize hm:((pendingOf st').modify ((pendingOf st').size-1) λy=>(y.1,y.2.1,power' z (2*x.1+x.2.1) (2*x.1+x.2.1+x.2.1+n) z))=pm
   refine uE (st:=setPending st' pm) ⟨R'.kd,R'.fl,R'.pm,?_,R'.le⟩ S' n1 hz h;show Rn r (arrOf st') 0 pm.toList lo
   rw[<-hm,Array.toList_modify];exact Rn.mod (f:=λy=>(y.1,y.2.1,power' z (2*x.1+x.2.1) (2*x.1+x.2.1+x.2.1+n) z)) (λy=>⟨rfl,rfl⟩) R'.rn
theorem Cy{z lo:Nat}(hc:Cmp prog w A s κ D r)(dm:∀ x∈a0.toList,D x)(un:Unl r a0.toList)(hz:z=a0.size)(R:Rs κ r a0 lo st){c0:Option Unit} :
  wpS (model prog w) A E s (tK z (c0,lo)) (λc st'=>(c=.done (none,lo)/\lo=z/\st'=st)\/∃ lo',c=.yield (none,lo')/\lo<lo'/\Rs κ r a0 lo' st') st:=by
 have sz:(arrOf st).size=a0.size:=R.pm.size_eq;have le:=R.le;have pl:=Zbm.mp R.pm;unfold tK;dsimp only;by_cases q:lo>=z
 ·rw[Zal q];exact Zax (.inl ⟨rfl,by omega,rfl⟩)
 ·rw[Zak q];have low:∀ {a2:Array Keyed},a2.Perm (arrOf st)->(∀ k,k<lo->a2[k]?=(arrOf st)[k]?)->Rs κ r a0 lo (setArr st a2):=λ{a2} p2 pre=>⟨R.kd,R.fl,p2.trans R.pm,R.rn.congr λk _ hk=>pre k hk,R.le⟩;refine Zao (wpS_countRun hc R.kd (λx hx=>dm x (pl.mem_iff.mp hx)) (un.perm pl) (by omega) (by omega) λn a2 n1 n2 p2 pre S=>?_)
  dsimp only;have R2:=low p2 pre;have pl2:=Zbm.mp (p2.trans R.pm);by_cases q2:n<minRun' z z 0
  ·rw[Zal q2];refine Zao (jG ?_);refine Zao (wpS_binarySort (st:=setArr st a2) hc R.kd (λx hx=>dm x (pl2.mem_iff.mp hx)) (un.perm pl2) n1 (by omega) (by show _<=a2.size;rw[p2.size_eq];omega) S λa3 p3 pre3 S3=>?_)
   rw[Zak (by decide)]
   have R3:Rs κ r a0 lo (setArr (setArr st a2) a3):=⟨R.kd,R.fl,(show a3.Perm a2 from p3).trans (p2.trans R.pm),R.rn.congr λk _ hk=>(pre3 k hk).trans (pre k hk),R.le⟩;exact Ks hc dm un R3 S3 (by omega) (by omega) λst' R'=>.inr ⟨_,rfl,by omega,R'⟩
  ·rw[Zak q2];exact Ks hc dm un R2 S (by omega) (by omega) λst' R'=>.inr ⟨_,rfl,by omega,R'⟩
theorem wpS_sortRuns(hc:Cmp prog w A s κ D r)(hk:kindOf st=κ)(hf:failedOf st=none)(hp:pendingOf st=#[])(dm:∀ x∈(arrOf st).toList,D x)(un:Unl r (arrOf st).toList){Q:Unit->SortSt->Prop}
  (h:∀ st',(arrOf st').Perm (arrOf st)->failedOf st'=none->Srt r (arrOf st').toList->Q () st'):wpS (model prog w) A E s sortRuns' Q st:=by
 rw[yf];unfold rG;refine Zao (wpS_get ?_);have R0:Rs κ r (arrOf st) 0 st:=⟨hk,hf,Array.Perm.refl _,by rw[hp];rfl,Zba _⟩
 refine Zao (Zbd (Zbh (I:=λk c st'=>∃ lo,c=(none,lo)/\Rs κ r (arrOf st) lo st'/\k<=lo) (Q:=λc st'=>c=(none,(arrOf st).size)/\Rs κ r (arrOf st) (arrOf st).size st') ?_ ?_ ⟨0,rfl,R0,Zaf _⟩) ?_)
 ·rintro k c st' _ _ ⟨lo,rfl,R,hlo⟩;refine Zbd (Cy hc dm un rfl R) λc st2 p=>?_;rcases p with⟨rfl,rfl,rfl⟩|⟨lo',rfl,g,R'⟩
  ·exact⟨rfl,R⟩
  ·exact⟨lo',rfl,R',by lia⟩
 ·rintro c st' ⟨lo,rfl,R,hlo⟩;have:=R.le;have e:lo=(arrOf st).size:=by lia
  subst e;exact⟨rfl,R⟩
 ·rintro c st' ⟨rfl,R⟩;dsimp only;have pz:∀ {st2:SortSt},Rs κ r (arrOf st) (arrOf st).size st2->(pendingOf st2).size<=(arrOf st).size:=λR2=>by
   have:=R2.rn.le;simp at this;exact this
  refine Zao (Zbd (Zbh (I:=λk c st2=>c=(none,())/\Rs κ r (arrOf st) (arrOf st).size st2/\((pendingOf st2).size+k<=(arrOf st).size\/(pendingOf st2).size<=1)) (Q:=λc st2=>c=(none,())/\Rs κ r (arrOf st) (arrOf st).size st2/\(pendingOf st2).size<=1) ?_ ?_ ⟨rfl,R,.inl (by have:=pz R;lia)⟩) ?_)
  ·rintro k c st2 _ _ ⟨rfl,R2,hs⟩;unfold Ft;refine Zao (wpS_get ?_);by_cases q:(pendingOf st2).size<=1
   ·rw[Zal q];exact Zax ⟨rfl,R2,q⟩
   ·rw[Zak q];refine Zao (Kr hc dm un R2 ?_ λst3 R3 e3 _=>?_)
    ·have:Kp st2<=(pendingOf st2).size-2:=by
      unfold Kp;generalize (if(pendingOf st2).size-2>0 then Option.map (λx:Pd=>x.2.1) (pendingOf st2)[(pendingOf st2).size-2-1]? else none)=o
      split<;>lia
     lia
    ·rw[Zak (by decide)]
     exact Zax ⟨rfl,R3,.inl (by lia)⟩
  ·rintro c st2 ⟨rfl,R2,hs⟩;exact⟨rfl,R2,by lia⟩
  ·rintro c st2 ⟨rfl,R2,hs⟩;refine Zax (h st2 R2.pm R2.fl ?_);have sz:(arrOf st2).size=(arrOf st).size:=R2.pm.size_eq;have all:gf r (arrOf st2) 0 (arrOf st2).size:=by
    have rn:=R2.rn;have pl:(pendingOf st2).toList.length<=1:=by simpa using hs
    match hq:(pendingOf st2).toList,pl with
    |[],_=>
     rw[hq] at rn;have rn:0=(arrOf st).size:=rn;intro p q _ _ h3;lia
    |[x],_=>
     rw[hq] at rn;obtain⟨_,_,g3,g4⟩:=rn;have g4:0+x.2.1=(arrOf st).size:=g4;rw[g4,<-sz] at g3;exact g3
   have:=(tH (r:=r) (a:=arrOf st2) (i:=0) (Zaf _)).mpr all;unfold bI at this;rw[Zbo,Za9 (by simp)] at this
   exact this
end
end L2.TS
namespace L2
open PySem PySem.Spec PyProof PyProof.Rows
namespace MP
section
variable{p:PV}
theorem Fv{κ:Type}[DecidableEq κ]{k:κ}{p q:PV}:∀ {l:List (κ×PV)},bj (bj l k p) k q=bj l k q
 |[]=>by simp[bj]
 |(a,r)::l=>by
  by_cases h:a=k
  ·simp[bj,h]
  ·simp[bj,h,Fv (l:=l)]
theorem Ku{κ:Type}[DecidableEq κ]{k:κ}{p:PV}:∀ {l:List (κ×PV)},bZ (bj l k p) k=some p
 |[]=>by simp[bj,bZ]
 |(a,r)::l=>by
  by_cases h:a=k
  ·simp[bj,bZ,h]
  ·simp[bj,bZ,h,Ku (l:=l)]
theorem zX{κ:Type}[DecidableEq κ]{k:κ}{p:PV}:∀ {l:List (κ×PV)},bZ l k=some p->bj l k p=l
 |[],e=>by cases e
 |(a,r)::l,e=>by
  unfold bZ at e;by_cases h:a=k
  ·rw[Zal h] at e;cases e;simp[bj,h]
  ·rw[Zak h] at e;simp[bj,h,zX e]
end
end MP
open PySem PySem.Spec PySem.W PyProof PyProof.Rows
noncomputable abbrev Sk:=Str×List Int
def ltI:List Int->List Int->Bool
 |a::l,b::m=>if a=b then ltI l m else decide (a<b)
 |_,_=>false
theorem ph:∀ l,ltI l l=false
 |[]=>rfl
 |a::l=>by unfold ltI;rw[Zal rfl];exact ph l
theorem wC:∀ {l m n:List Int},ltI l m=true->ltI m n=true->ltI l n=true
 |a::l,b::m,c::n,h1,h2=>by
  unfold ltI at h1 h2 ⊢;by_cases e1:a=b
  ·rw[Zal e1] at h1;by_cases e2:b=c
   ·rw[Zal e2] at h2;rw[Zal (e1.trans e2)];exact wC h1 h2
   ·rw[Zak e2] at h2;rw[Zak (λz=>e2 (e1.symm.trans z)),e1];exact h2
  ·rw[Zak e1] at h1;have h1:=Zbc h1;by_cases e2:b=c
   ·rw[Zak (λz=>e1 (z.trans e2.symm)),<-e2];exact ZaD h1
   ·rw[Zak e2] at h2;have h2:=Zbc h2;rw[Zak (by omega)]
    exact ZaD (by omega)
 |[],_,_,h1,_=>by cases h1
 |_::_,[],_,h1,_=>by cases h1
 |_::_,_::_,[],_,h2=>by cases h2
theorem wD:∀ {l m:List Int},l.length=m.length->l≠m->ltI l m=true\/ltI m l=true
 |[],[],_,h=>absurd rfl h
 |a::l,b::m,hl,h=>by
  unfold ltI;by_cases e:a=b
  ·subst e;rw[Zal rfl,Zal rfl];exact wD (by simpa using hl) λz=>h (by rw[z])
  ·rw[Zak e,Zak (Zbs e)];rcases Int.lt_or_gt_of_ne e with q|q
   ·exact .inl (ZaD q)
   ·exact .inr (ZaD q)
open PySem PySem.Spec PySem.W PyProof PyProof.Rows
theorem rH:∀ {ys:List Value}{ns ms:List Int},IntsAre ys ns->IntsAre ys ms->ns=ms
 |_,_,_,.nil,.nil=>rfl
 |_,_,_,.cons n _ h1,.cons _ _ h2=>by rw[rH h1 h2]
section
theorem my:∀ {ys:List Value}{ns:List Int},IntsAre ys ns->ys.length=ns.length
 |_,_,.nil=>rfl
 |_,_,.cons _ _ h=>by simp[my h]
theorem Hr{r:Nat->Nat->Prop}{n:Nat}(h:n<2):(List.range n).Pairwise r:=by
 rcases(by omega:n=0\/n=1) with rfl|rfl
 ·exact .nil
 ·exact List.pairwise_singleton _ _
end
open PySem PySem.Spec PySem.W PyProof PyProof.Rows
end L2
namespace L2.MP
open PySem PySem.Spec PySem.W PyProof PyProof.Rows
end L2.MP
namespace L2
open PySem PySem.Spec PyProof PyProof.Rows
namespace MP
end MP
namespace MP
end MP
namespace MP
end MP
end L2
namespace L2.MP
section
variable{α:Type}{us:List α}
theorem len0(h:us.length=0):us=[]:=List.length_eq_zero_iff.mp h
theorem Rx{n:Nat}(h:us.length=n+1):∃ a vs,us=a::vs/\vs.length=n:=by
 cases us with
 |nil=>cases h
 |cons a vs=>exact⟨a,vs,rfl,Nat.succ.inj h⟩
theorem zY(h:us.length=1):∃ a,us=[a]:=by
 obtain⟨a,vs,rfl,h2⟩:=Rx h;cases len0 h2;exact⟨a,rfl⟩
theorem yg(h:us.length=2):∃ a b,us=[a,b]:=by
 obtain⟨a,vs,rfl,h2⟩:=Rx h;obtain⟨b,rfl⟩:=zY h2;exact⟨a,b,rfl⟩
theorem Hs(h:us.length=3):∃ a b c,us=[a,b,c]:=by
 obtain⟨a,vs,rfl,h2⟩:=Rx h;obtain⟨b,c,rfl⟩:=yg h2;exact⟨a,b,c,rfl⟩
end
end L2.MP
namespace L2
open PySem PySem.Spec PyProof PyProof.Rows
inductive LtK:List Key->List Key->Bool->Prop
 |nn:LtK [] [] false
 |nc (k:Key) (l:List Key):LtK [] (k::l) true
 |cn (k:Key) (l:List Key):LtK (k::l) [] false
 |eq (k:Key) {l m:List Key}{r:Bool} (h:LtK l m r):LtK (k::l) (k::m) r
 |int {i j:Int} (l m:List Key) (h:i≠j):LtK (.inl i::l) (.inl j::m) (decide (i<j))
 |str {i j:Str} (l m:List Key) (h:i≠j):LtK (.inr i::l) (.inr j::m) (decide (i.cps.toList<j.cps.toList))
theorem yh{i:Int}{u:Value}(r:RelV (kV (.inl i)) u):∃ t,u=.int i t:=r
theorem yj{i:Str}{u:Value}(r:RelV (kV (.inr i)) u):∃ t,u=.str i t:=r
section
open PySem.SeqAt
open PySem.AutoSeq1 (wpAny_loadPart')
open PySem.MeetsSeq PySem.MeetsSeq2 PySem.MeetsSeq3
theorem Kv(A:Around)(s:Shared)(a:Str)(t:Tok)(c:Str)(u:Tok)(prog:Program)(w:World)(E:Value->Shared->Prop)(Q:Value->Shared->Prop)(h:Q (.bool (decide (a.cps.toList<c.cps.toList))) s) :
  wpAny (model prog w) A (richCompare .Lt (.str a t) (.str c u)) Q E s:=
 (PyProof.Rows.lt_str h:wpAny (model prog w) A (compareOp .Lt (.str a t) (.str c u)) Q E s)
theorem Kw(A:Around)(s:Shared)(k:Key){v u:Value}(h1:RelV (kV k) v)(h2:RelV (kV k) u):EqAt A s v u true:=by
 cases k with
 |inl i=>
  obtain⟨t,rfl⟩:=yh h1;obtain⟨t',rfl⟩:=yh h2;have:=EqAt.int_int (A:=A) (s:=s) i t i t'
  rwa [beq_self_eq_true] at this
 |inr i=>
  obtain⟨t,rfl⟩:=yj h1;obtain⟨t',rfl⟩:=yj h2;have:=EqAt.str_str (A:=A) (s:=s) i t i t'
  rwa [beq_self_eq_true] at this
theorem vC(l b:Addr)(items items2:Array Value)(n n2:Nat)(dd dd2:Option Addr)(sl sl2:Array (Option Value))(ns ms:List Key)(r:Bool)(hi:Vals (ns.map kV) items.toList)(hj:Vals (ms.map kV) items2.toList)(hr:LtK ns ms r) :
  Meets (Builtin.«tuple.__lt__» ⟨[.ref l,.ref b],[]⟩)
   (λ_ R s=>s.heap.get? l=some { cls:=.type "tuple",dict:=dd,data:=.seq items n,slots:=sl }/\s.heap.get? b=some { cls:=.type "tuple",dict:=dd2,data:=.seq items2 n2,slots:=sl2 } /\
    R (.ok (.ret (.bool r))) s):=
 .of_wp λprog w A R s h=>by
  obtain⟨hp,g,d,tk,os⟩:=s;obtain⟨hl,hb,h⟩:=h;have f2:=AutoSeq1.sub_tuple_tuple;have z1:items.size=ns.length:=by have:=hi.length;simpa using this.symm
  have z2:items2.size=ms.length:=by have:=hj.length;simpa using this.symm
  wp_walk using wpAny_loadPart' hl,wpAny_loadPart' hb,wpAny_forIn_list _ (λrest b s'=>b.1=none/\s'=⟨hp,g,d,tk,os⟩/\∃ (vs ws:List Value) (ns' ms':List Key),rest=vs.zip ws /\
   Vals (ns'.map kV) vs/\Vals (ms'.map kV) ws/\ns'.length+items2.size=ms'.length+items.size/\LtK ns' ms' r) _
  case turn=>
   rintro⟨y,x⟩ rest b s' ⟨hb',rfl,vs,ws,ns',ms',hz,hvi,hwi,hlen,hR⟩;cases hR with
   |nn=>cases hvi;rw[List.zip_nil_left] at hz;cases hz
   |nc k l=>cases hvi;rw[List.zip_nil_left] at hz;cases hz
   |cn k l=>cases hwi;rw[List.zip_nil_right] at hz;cases hz
   |eq k hR=>
    cases hvi with
    |cons r1 hvi'=>
     cases hwi with
     |cons r2 hwi'=>
      rw[List.zip_cons_cons] at hz;injection hz with hyx hrest
      injection hyx with hy hx
      subst hy hx;simp only[ZaN] at hlen;refine Zab (Kw A.in1 ⟨hp,g,d,tk,os⟩ k r1 r2 prog w _ _ ?_)
      wp_walk
      exact⟨rfl,rfl,_,_,_,_,hrest,hvi',hwi',by omega,hR⟩
   |@int i j l m ne=>
    cases hvi with
    |cons r1 hvi'=>
     cases hwi with
     |cons r2 hwi'=>
      rw[List.zip_cons_cons] at hz;injection hz with hyx hrest
      injection hyx with hy hx
      subst hy hx;obtain⟨t,rfl⟩:=yh r1;obtain⟨u,rfl⟩:=yh r2;have he:=EqAt.int_int (A:=A.in1) (s:=⟨hp,g,d,tk,os⟩) i t j u;rw[beq_eq_false_iff_ne.mpr ne] at he;refine Zab (he prog w _ _ ?_);have hri:=HT.Jc A.in1 ⟨hp,g,d,tk,os⟩ i t j u prog w
      wp_walk using hri
      exact⟨_,rfl,by simpa using h⟩
   |@str i j l m ne=>
    cases hvi with
    |cons r1 hvi'=>
     cases hwi with
     |cons r2 hwi'=>
      rw[List.zip_cons_cons] at hz;injection hz with hyx hrest
      injection hyx with hy hx
      subst hy hx;obtain⟨t,rfl⟩:=yj r1;obtain⟨u,rfl⟩:=yj r2;have he:=EqAt.str_str (A:=A.in1) (s:=⟨hp,g,d,tk,os⟩) i t j u;rw[beq_eq_false_iff_ne.mpr ne] at he;refine Zab (he prog w _ _ ?_);have hri:=Kv A.in1 ⟨hp,g,d,tk,os⟩ i t j u prog w
      wp_walk using hri
      exact⟨_,rfl,by simpa using h⟩
  case fin=>
   rintro⟨b1,b2⟩ s' ⟨hb',rfl,vs,ws,ns',ms',hz,hvi,hwi,hlen,hR⟩;simp only at hb';subst hb';have no:∀ {k k':Key}{l m:List Key},Vals ((k::l).map kV) vs->Vals ((k'::m).map kV) ws->False:=λh1 h2=>by
    cases h1;cases h2;rw[List.zip_cons_cons] at hz;cases hz
   have hv:r=decide (items.size<items2.size):=by
    cases hR with
    |nn=>simp only[List.length_nil] at hlen;exact(ZaH (by omega)).symm
    |nc k l=>simp only[List.length_nil,ZaN] at hlen;exact(ZaD (by omega)).symm
    |cn k l=>simp only[List.length_nil,ZaN] at hlen;exact(ZaH (by omega)).symm
    |eq k hR=>exact(no hvi hwi).elim
    |int l m ne=>exact(no hvi hwi).elim
    |str l m ne=>exact(no hvi hwi).elim
   rw[hv] at h
   wp_walk
   exact⟨_,rfl,by simpa[Builtin.Tuple.tupleCompareSizes] using h⟩
  case h=>
   exact⟨rfl,rfl,items.toList,items2.toList,ns,ms,rfl,hi,hj,by omega,hr⟩
end
theorem Cz{prog:Program}{w:World}{A:Around}{E:Value->Shared->Prop}{s:Shared}{l b:Addr}{items items2:Array Value}{ns ms:List Key}{r:Bool}{Q:Value->Shared->Prop}(hl:IsTup s.heap l items)(hb:IsTup s.heap b items2)(hi:Vals (ns.map kV) items.toList)(hj:Vals (ms.map kV) items2.toList)(hr:LtK ns ms r)
  (hu:A.units<cLine)(h:Q (.bool r) s):wpAny (model prog w) A (compareOp .Lt (.ref l) (.ref b)) Q E s:=by
 obtain⟨⟨cls,dd,data,sl⟩,ho,hc,n,hd⟩:=id hl;obtain⟨⟨cls2,dd2,data2,sl2⟩,ho2,hc2,n2,hd2⟩:=id hb;simp only at hc hd hc2 hd2;subst hc hd hc2 hd2;exact richCompare_meets_room (op:=.Lt) ⟨_,ho,rfl⟩ ⟨_,ho2,rfl⟩ PySem.F.slot_tuple_lt PySem.F.entry_tuple_lt (PySem.F.args_tuple_lt_2 _ _) (vC l b items items2 n n2 dd dd2 sl sl2 ns ms r hi hj hr)
  ⟨ho,ho2,show Value.bool r≠Value.notImplemented/\Q (.bool r) s from⟨(λx=>nomatch x),h⟩⟩ hu
end L2
namespace L2.MP
open PySem PySem.Spec PyProof PyProof.Rows
end L2.MP
namespace L2.SE
open PySem
def Inc(xs:Array Nat):Prop:=xs.toList.Pairwise (·<·)
theorem Inc.lt{xs:Array Nat}(h:Inc xs){i j d e:Nat}(hij:i<j)(hj:j<xs.size):xs.getD i d<xs.getD j e:=by
 have q:=Zbu.mp h i j (by rw[ZaC];omega) (by rw[ZaC];exact hj) hij
 rw[ZaO,ZaO,Zar (by omega),Zar hj]
 simpa using q
theorem Ky{xs:Array Nat}(h:Inc xs)(j:Nat):∀ (fuel lo hi:Nat),lo<=hi->hi<=xs.size->hi-lo<=fuel->(∀ i,i<lo->xs.getD i j<j)->(∀ i,hi<=i->i<xs.size->j<=xs.getD i j) ->
  SetTable.below.go xs j fuel lo hi<=xs.size/\(∀ i,i<SetTable.below.go xs j fuel lo hi->xs.getD i j<j)/\(∀ i,SetTable.below.go xs j fuel lo hi<=i->i<xs.size->j<=xs.getD i j)
 |0,lo,hi,h1,h2,h3,h4,h5=>by
  have e:lo=hi:=by omega
  subst e;exact⟨h2,h4,h5⟩
 |fuel+1,lo,hi,h1,h2,h3,h4,h5=>by
  unfold SetTable.below.go;by_cases c:lo<hi
  ·rw[Zal c];dsimp only;have m1:lo<=(lo+hi)/2:=by omega
   have m2:(lo+hi)/2<hi:=by omega
   by_cases d:xs.getD ((lo+hi)/2) j<j
   ·rw[Zal d];refine Ky h j fuel _ _ (by omega) h2 (by omega) (λi hi'=>?_) h5
    rcases ZbL i ((lo+hi)/2) with q|q
    ·exact ZbG (h.lt q (by omega)) d
    ·have:i=(lo+hi)/2:=by omega
     rw[this];exact d
   ·rw[Zak d];refine Ky h j fuel _ _ m1 (by omega) (by omega) h4 λi hi' hs=>?_
    rcases ZbL ((lo+hi)/2) i with q|q
    ·exact ZaJ (Nat.lt_of_le_of_lt (Nat.le_of_not_lt d) (h.lt q hs))
    ·have:i=(lo+hi)/2:=by omega
     rw[this];exact Nat.le_of_not_lt d
  ·rw[Zak c];have e:lo=hi:=by omega
   subst e;exact⟨h2,h4,h5⟩
theorem uF{xs:Array Nat}(h:Inc xs)(j:Nat):SetTable.below xs j<=xs.size/\(∀ i,i<SetTable.below xs j->xs.getD i j<j)/\(∀ i,SetTable.below xs j<=i->i<xs.size->j<=xs.getD i j):=
 Ky h j xs.size 0 xs.size (Zba _) (Zaf _) (by omega) (λi hi=>absurd hi (Nat.not_lt_zero _)) λi h1 h2=>absurd h2 (by omega)
theorem below_at{xs:Array Nat}(h:Inc xs){k slot:Nat}(hk:k<=xs.size)(h0:∀ i,i<k->xs.getD i slot<slot)(h1:∀ i,k<=i->i<xs.size->slot<=xs.getD i slot):SetTable.below xs slot=k:=by
 obtain⟨a,b,c⟩:=uF h slot;rcases Nat.lt_trichotomy (SetTable.below xs slot) k with q|q|q
 ·have:=h0 _ q;have:=c _ (Zaf _) (by omega);omega
 ·exact q
 ·have:=b _ q;have:=h1 _ (Zaf _) (by omega);omega
theorem CG{xs:Array Nat}(h:Inc xs):SetTable.below xs 0=0:=below_at h (Zba _) (λi hi=>absurd hi (Nat.not_lt_zero _)) λ_ _ _=>Zba _
theorem CJ{xs:Array Nat}(h:Inc xs){k p:Nat}(hk:xs[k]?=some p):SetTable.below xs (p+1)=k+1:=by
 obtain⟨hl,e⟩:=Array.getElem?_eq_some_iff.mp hk;have ed:∀ d,xs.getD k d=p:=λd=>by rw[ZaO,hk];rfl
 refine below_at h hl (λi hi=>?_) λi hi hs=>?_
 ·rcases ZbL i k with q|q
  ·have:=h.lt (d:=p+1) (e:=p+1) q hl;rw[ed] at this;omega
  ·have:i=k:=by omega
   rw[this,ed];omega
 ·have:=h.lt (d:=p+1) (e:=p+1) (show k<i by omega) hs;rw[ed] at this;omega
structure Good(b:Bool)(t:SetTable):Prop where
 led:t.led=b
 dum:t.dummies=#[]
 inc:Inc t.place
theorem Fw(j:Nat):SetTable.has #[] j=false:=rfl
theorem Ht{t:SetTable}(hd:t.dummies=#[]){j:Nat}:t.slot j=.empty\/∃ i,t.slot j=.live i:=by
 unfold SetTable.slot;dsimp only;split
 ·exact .inr ⟨_,rfl⟩
 ·rw[hd,Fw];exact .inl rfl
theorem zZ{t:SetTable}(hd:t.dummies=#[]){h:Int}:∀ (fuel:Nat) (p:SetTable.Probe) (m:SetTable.Met),p.dummy=none->SetTable.probe.go t (λ_=>h+1) h fuel p=some m->∃ j,m=.empty j none/\t.slot j=.empty
 |0,_,_,_,e=>nomatch e
 |fuel+1,p,m,hp,e=>by
  unfold SetTable.probe.go at e;rcases Ht hd (j:=p.j) with q|⟨i,q⟩
  ·rw[q] at e;cases e;exact⟨p.j,by rw[hp],q⟩
  ·rw[q] at e;replace e:(if(h+1==h)=true then some (SetTable.Met.candidate p.j i (t.advance p)) else SetTable.probe.go t (λ_=>h+1) h fuel (t.advance p))=some m:=e;rw[Zak (by simp;omega)] at e
   refine zZ hd fuel _ m ?_ e;unfold SetTable.advance;split<;>exact hp
theorem Ol{t:SetTable}(hd:t.dummies=#[]){h:Int}{j:Nat}{b:Bool}(e:t.freeSlot h=some (j,b)):t.slot j=.empty:=by
 unfold SetTable.freeSlot at e;cases q:t.probe (λ_=>h+1) h (t.probeStart h) with
 |none=>rw[q] at e;cases e
 |some m=>
  obtain⟨j',rfl,hs⟩:=zZ hd _ _ _ rfl q;rw[q] at e;cases e;exact hs
theorem Kz{b:Bool}{t:SetTable}(g:Good b t){j:Nat}(hj:t.slot j=.empty):Good b (t.put j).1:=by
 have hn:∀ i,t.place[i]?=some j->False:=λi e=>by
  obtain⟨hl,e'⟩:=Array.getElem?_eq_some_iff.mp e;obtain⟨a1,a2,a3⟩:=uF g.inc j;have ed:t.place.getD i j=j:=by rw[ZaO,e];rfl
  have hb:SetTable.below t.place j=i:=by
   rcases Nat.lt_trichotomy (SetTable.below t.place j) i with q|q|q
   ·have:=g.inc.lt (d:=j) (e:=j) q hl;have:=a3 _ (Zaf _) (by omega);omega
   ·exact q
   ·have:=a2 _ q;omega
  unfold SetTable.slot at hj;dsimp only at hj;rw[hb,e,Zal (by simp)] at hj
  cases hj
 refine⟨g.led,by show(if SetTable.has t.dummies j then _ else t.dummies)=_;rw[g.dum,Fw];rfl,?_⟩
 show List.Pairwise _ (SetTable.insertAt t.place (SetTable.below t.place j) j).toList
 obtain⟨a1,a2,a3⟩:=uF g.inc j;rw[SetTable.toList_insertAt,Zap];have key:∀ x∈t.place.toList.drop (SetTable.below t.place j),j<x:=λx hx=>by
  obtain⟨i,hi,rfl⟩:=List.getElem_of_mem hx;rw[List.length_drop,ZaC] at hi;rw[List.getElem_drop,Array.getElem_toList];have q:=a3 (SetTable.below t.place j+i) (by omega) (by omega)
  rw[ZaO,Zar (by omega)] at q
  have q:j<=t.place[SetTable.below t.place j+i]:=q;refine Nat.lt_of_le_of_ne q λe=>hn _ (Array.getElem?_eq_some_iff.mpr ⟨by omega,e.symm⟩)
 have key2:∀ x∈t.place.toList.take (SetTable.below t.place j),x<j:=λx hx=>by
  obtain⟨i,hi,rfl⟩:=List.getElem_of_mem hx;rw[Zbw,ZaC] at hi;rw[List.getElem_take,Array.getElem_toList];have q:=a2 i (by omega)
  rw[ZaO,Zar (by omega)] at q
  exact q
 refine⟨Zan (ZaU _ _) g.inc,Zb0.mpr ⟨key,Zan (ZaY _ _) g.inc⟩,λx hx y hy=>?_⟩;rcases Zay.mp hy with rfl|hy
 ·exact key2 x hx
 ·exact ZbG (key2 x hx) (key y hy)
theorem iK{b:Bool}{t:SetTable}(g:t.led=b)(n:Nat):Good b (t.standIn n):=⟨g,rfl,by
 show List.Pairwise _ (Array.range n).toList
 rw[Array.toList_range];exact List.pairwise_lt_range⟩
theorem z6{b:Bool}{t:SetTable}(g:Good b t)(es:Array (Int×Value))(h:Int)(x:Value):Good b (layNew t es h x).2.1:=by
 unfold layNew;cases q:t.freeSlot h with
 |none=>exact iK g.led _
 |some p=>
  obtain⟨j,w⟩:=p;have g1:=Kz g (Ol g.dum q);show Good b (SetTable.orStandIn _ _)
  unfold SetTable.orStandIn;split
  ·exact g1
  ·exact iK g1.led _
theorem KC{mask finger moves:Nat}{led plain:Bool}{hs:Array Int}{t:SetTable}{o:Array Nat}(e:SetTable.laid mask finger moves led plain hs=some (t,o)):Good led t:=by
 unfold SetTable.laid at e;cases q:SetTable.layClean mask hs with
 |none=>rw[q] at e;cases e
 |some ow=>
  rw[q] at e;cases e;refine⟨rfl,rfl,?_⟩;show List.Pairwise _ (List.map _ _)
  rw[List.pairwise_map,List.pairwise_filterMap];refine List.pairwise_lt_range.imp λ{a b} hab x hx y hy=>?_;obtain⟨_,_,rfl⟩:=ZbX.mp hx;obtain⟨_,_,rfl⟩:=ZbX.mp hy;exact hab
theorem CK{b:Bool}{t:SetTable}(g:Good b t)(es:Array (Int×Value))(n:Nat):Good b (relayAll t es n).2.1:=by
 unfold relayAll;cases q:t.relaid (es.map (·.1)) n with
 |none=>exact iK g.led _
 |some p=>
  obtain⟨t',o⟩:=p;have g1:=KC q;rw[g.led] at g1;dsimp only;split
  ·exact g1
  ·exact iK g.led _
theorem CN(b:Bool):Good b (.fresh 0 0 b):=⟨rfl,rfl,List.Pairwise.nil⟩
open PySem PySem.Spec PyProof PyProof.Rows
section
variable{prog:Program}{w:World}{K:Type}[DecidableEq K](knd:KeyKind prog w K)
def Apart(l:List (Int×Value)):Prop:=l.Pairwise λe f=>∀ k,knd.is k e.2=true->knd.is k f.2=true->False
structure Els(S:K->Bool)(es:Array (Int×Value)):Prop where
 el:ElemsOf knd es.toList
 ap:Apart knd es.toList
 mem:∀ k,S k=true↔∃ e∈es.toList,knd.is k e.2=true
def lK(h:Heap)(a:Addr)(b:Bool)(S:K->Bool)(n:Nat):Prop:=
 ∃ o es ep t,h.get? a=some o/\o.ExactSet/\o.data=.set es ep t/\Els knd S es/\es.size<scanBound/\t.fits es.size=true/\Good b t/\es.size<=n
variable{knd}{S:K->Bool}{A:Around}{E:Value->Shared->Prop}{s:Shared}{a:Addr}{b:Bool}{n:Nat}
theorem Els.perm{es es':Array (Int×Value)}(h:Els knd S es)(p:es'.toList.Perm es.toList):Els knd S es':=
 ⟨h.el.perm p,(p.symm.pairwise_iff λ{x y} q k u v=>q k v u).mp h.ap,λk=>(h.mem k).trans ⟨λ⟨e,u,v⟩=>⟨e,p.mem_iff.mpr u,v⟩,λ⟨e,u,v⟩=>⟨e,p.mem_iff.mp u,v⟩⟩⟩
theorem Els.push{es es':Array (Int×Value)}(h:Els knd S es){k:K}{x:Value}(hk:knd.is k x=true)(hx:x.scannable=true)(hn:S k=false)(p:es'.toList.Perm (es.toList++[(knd.hash k,x)])):Els knd (λk'=>S k'||decide (k'=k)) es':=by
 refine⟨(h.el.push hk hx).perm p,(p.symm.pairwise_iff λ{x y} q k u v=>q k v u).mp (Zap.mpr ⟨h.ap,List.pairwise_singleton _ _,λe he f hf k' u v=>?_⟩),mem_push_iff hk h.mem p⟩;rw[Zai] at hf;subst hf;have e:k'=k:=knd.inj x k' k v hk;subst e;rw[(h.mem k').mpr ⟨_,he,u⟩] at hn;cases hn
theorem lay{h:Heap}{o:Obj}{es:Array (Int×Value)}{ep:Nat}{t:SetTable}(ho:h.get? a=some o)(hex:o.ExactSet)(hd:o.data=.set es ep t){es':Array (Int×Value)}{t':SetTable}
  (x:Els knd S es')(hb:es'.size<scanBound)(hf:t'.fits es'.size=true)(g:Good b t')(hn:es'.size<=n) :
  (h.update a (Obj.putSet es' t')).get? a=some { o with data:=.set es' (ep+1) t' }/\lK knd (h.update a (Obj.putSet es' t')) a b S n:=by
 have q:=(SetOf_store (knd:=knd) ho hex hd x.el x.mem hb hf).1;exact⟨q,_,es',ep+1,t',q,hex,rfl,x,hb,hf,g,hn⟩
theorem Fx{gw:Bool->Sem Unit}(hgw:∀ (c:Bool) (z:Shared) (P:Unit->Shared->Prop),P () z->wpAny (model prog w) A (gw c) P E z)
  {o:Obj}{es:Array (Int×Value)}{ep:Nat}{t:SetTable}(ho:s.heap.get? a=some o)(hex:o.ExactSet)(hd:o.data=.set es ep t){fs:Array (Int×Value)}{u:SetTable}
  (x:Els knd S fs)(hb:fs.size<scanBound)(hf:u.fits fs.size=true)(g:Good b u)(hn:fs.size<=n){wd:Bool}{R:Option Bool->Shared->Prop}
  (h:∀ h',Heap.SameBut a s.heap h'->lK knd h' a b S n->R (some true) { s with heap:=h' }) :
  wpAny (model prog w) A (storeSet a fs u>>=λ_=>if(!wd&&u.tooFull)=true then(gw (relayAll u fs (SetTable.grown fs.size)).2.2>>=λ_=>storeSet a (relayAll u fs (SetTable.grown fs.size)).1 (relayAll u fs (SetTable.grown fs.size)).2.1>>=λ_=>pure (some true)) else pure (some true)) R E s:=by
 obtain⟨q1,q2⟩:=lay (n:=n) ho hex hd x hb hf g hn;have sb:=Za0 s.heap a (Obj.putSet fs u);refine Zab (wpAny_storeSet_of ho hd ?_ (fits_of_scanBound hb));by_cases c:(!wd&&u.tooFull)=true
 ·rw[Zal c];have p:=relayAll_perm u fs (SetTable.grown fs.size);have f2:=relayAll_fits u fs (SetTable.grown fs.size);have g2:=CK g fs (SetTable.grown fs.size);generalize relayAll u fs (SetTable.grown fs.size)=rl at p f2 g2 ⊢
  obtain⟨fs2,u2,w2⟩:=rl;have z:fs2.size=fs.size:=by rw[<-ZaC,p.length_eq,ZaC]
  refine Zab (hgw _ _ _ (Zab (wpAny_storeSet_of q1 rfl (Zaj (h _ (sb.trans (Za0 _ a _)) ?_)) (fits_of_scanBound (z▸hb)))));exact(lay (n:=n) q1 hex rfl (x.perm p) (z▸hb) f2 g2 (z▸hn)).2
 ·rw[Zak c];exact Zaj (h _ sb q2)
theorem Ry{k:K}{x:Value}{Q:Bool->Shared->Prop}(hkey:knd.is k x=true)(hsc:x.scannable=true)(hS:lK knd s.heap a b S n)(room:n+1<scanBound)
  (h:∀ r h',Heap.SameBut a s.heap h'->lK knd h' a b (λk'=>S k'||decide (k'=k)) (n+1)->Q r { s with heap:=h' }) :
  wpAny (model prog w) A (setAddHashed a x (knd.hash k)) Q E s:=by
 obtain⟨o,es,ep,t,ho,hex,hd,el,hb,hf,g,hn⟩:=hS;unfold setAddHashed setAddHashedIn;refine wpAny_holding (Zab (wpAny_setState_of ho hd hf ?_));dsimp only;rw[byScan_of hsc hb el.el,Zal rfl];unfold setAddByScan;refine Zab (Zab (wpAny_rule (Zab (wpAny_setScan_of hkey ho hd hf el.el ?_))));cases hr:List.findIdx? (λe=>knd.is k e.2) es.toList with
 |some j=>
  obtain⟨hj,hpj,_⟩:=List.findIdx?_eq_some_iff_getElem.mp hr;have hSk:S k=true:=(el.mem k).mpr ⟨_,Zbq hj,hpj⟩;refine Zaj (Zaj ?_);refine h false s.heap (Heap.SameBut.refl a s.heap) ⟨o,es,ep,t,ho,hex,hd,⟨el.el,el.ap,λk'=>?_⟩,hb,hf,g,Nat.le_succ_of_le hn⟩;rw[<-el.mem k',Bool.or_eq_true,Zbb];exact⟨λq=>q.elim id λe=>e▸hSk,.inl⟩
 |none=>
  have hSk:S k=false:=by
   cases hk:S k with
   |false=>rfl
   |true=>
    obtain⟨e,he,hp⟩:=(el.mem k).mp hk;rw[List.findIdx?_eq_none_iff.mp hr e he] at hp;cases hp
  have p:=layNew_perm t es (knd.hash k) x;have f2:=layNew_fits t es (knd.hash k) x;have g2:=z6 g es (knd.hash k) x;dsimp only;generalize layNew t es (knd.hash k) x=L at p f2 g2 ⊢
  obtain⟨fs,u,wd,gv⟩:=L;dsimp only at p f2 g2 ⊢;rw[Zbk] at p;have z:fs.size=es.size+1:=by rw[<-ZaC,p.length_eq,List.length_append,ZaC];rfl
  have X:=el.push hkey hsc hSk p;have hb2:fs.size<scanBound:=by omega
  have hgw:∀ (c:Bool) (y:Shared) (P:Unit->Shared->Prop),P () y->wpAny (model prog w) A (match c with|true=>rule "set.scan.the-table-gave-way"|false=>pure ()) P E y:=λc y P q=>by
   cases c
   ·exact Zaj q
   ·exact wpAny_rule q
  refine Zab (hgw _ _ _ ?_);by_cases c:u.plain=true
  ·rw[Zal c,hashByValue_scannable 8 hsc];refine Zab (Zaj (Fx hgw ho hex hd X hb2 ?_ ?_ (n:=n+1) (by omega) λh' u1 u2=>Zaj (h true h' u1 u2)))
   ·split
    ·exact f2
    ·exact SetTable.fits_plain_off f2
   ·split
    ·exact g2
    ·exact⟨g2.led,g2.dum,g2.inc⟩
  ·rw[Zak c];refine Zab (Zaj ?_);rw[Zal rfl];exact Fx hgw ho hex hd X hb2 f2 g2 (n:=n+1) (by omega) λh' u1 u2=>Zaj (h true h' u1 u2)
end
open PySem PySem.Spec PyProof PyProof.Rows
def byT(w:World):Bool:=w.params.followText "set-order"
noncomputable abbrev vD(b:Bool):Obj:={ cls:=.type "set",dict:=none,data:=.set #[] 0 (.fresh 0 0 b) }
section
variable{prog:Program}{w:World}{K:Type}[DecidableEq K]{knd:KeyKind prog w K}{S:K->Bool}{A:Around}{E:Value->Shared->Prop}{s:Shared}{a:Addr}{b:Bool}{n:Nat}
theorem lK.at{h h':Heap}(x:lK knd h a b S n)(e:∀ o,h.get? a=some o->h'.get? a=some o):lK knd h' a b S n:=
 let⟨o,es,ep,t,ho,r⟩:=x;⟨o,es,ep,t,e o ho,r⟩
theorem lK.fresh{h:Heap}:lK knd (h.push (vD b)) h.objs.size b (λ_=>false) 0:=
 ⟨_,#[],0,.fresh 0 0 b,Zam _ rfl,⟨rfl,rfl,rfl⟩,rfl,⟨λe he=>by simp at he,List.Pairwise.nil,λk=>by simp⟩,by decide,by rfl,CN b,Zaf _⟩
def seen(key:Nat->K)(i:Nat):K->Bool:=λk=>(List.range i).any λj=>decide (k=key j)
theorem Hu(key:Nat->K)(i:Nat):(λk=>seen key i k||decide (k=key i))=seen key (i+1):=by
 funext k
 unfold seen;rw[List.range_succ,List.any_append,ZbO,List.any_nil,Bool.or_false]
theorem Rz(x:Value){Q:Value->Shared->Prop}(h:Q (.ref s.heap.objs.size) { s with heap:=s.heap.push (vD (!byT w)) }) :
  codeAny (model prog w) A (.call (.builtin "set.__new__") ⟨[.type "set",x],[]⟩) (wants Q E) s:=by
 refine codeAny_of_tree ?_;show wpAny _ A.in1 (checkBuiltinCall "set.__new__" ⟨[.type "set",x],[]⟩>>=λ_=>again (.builtin "set.__new__" ⟨[.type "set",x],[]⟩)) _ _ s
 refine Zab (wpAny_of_eq (F.newCall_set_1 x) (Zaj ⟨plainId_quiet F.plain_set_new _,codeAny_builtin F.entry_set_new ?_⟩));rw[Zbt F.plain_set_new _];unfold Builtin.«set.__new__» Builtin.Frozenset.newClass;have hs:=sub_set_self;obtain⟨hp,g,d,tk,os⟩:=s;dsimp only at h ⊢
 wp_walk
 refine wpAny_askSetting (Zaj ?_);dsimp only;simp only[newObj];exact Zab (wpAny_alloc (Zaj (Zaj h)))
end
section
variable{prog:Program}{w:World}{K:Type}[DecidableEq K]{knd:KeyKind prog w K}{A:Around}{R:Result->Shared->Prop}{I:Addr}{fp wr:List Addr}{G:Array GenState->Array GenState->Prop}{n:Nat}{P:Nat->Value->Prop}{St:Nat->Shared->Prop}{b:Bool}
theorem Om(W:WalksS prog w A.in1 I fp wr G n P St)(D:Addr)(hD:D ∉ fp)(key:Nat->K)(hv:∀ i v,P i v->knd.is (key i) v=true/\v.scannable=true)(hb:n+1<scanBound) :
  ∀ (k i:Nat) (s:Shared),n-i=k->i<=n->St i s->lK knd s.heap D b (seen key i) i->(∀ s',Moved (D::wr) G s s'->lK knd s'.heap D b (seen key n) n->R (.ok (.ret .none)) s') ->
   codeAny (model prog w) A (.builtin "set.update.loop" ⟨[.ref D,.ref I],[]⟩) R s:=by
 have hDw:D ∉ wr:=λq=>hD (W.sub _ q);have up:∀ c∈wr,c∈D::wr:=λc q=>List.mem_cons_of_mem _ q;intro k;induction k with
 |zero=>
  intro i s hk hi st X r;obtain rfl:i=n:=by omega
  refine codeAny_builtin F.entry_set_update_loop ?_;rw[Zbt F.plain_set_update_loop _];refine Zab (m:=pyNext (.ref I)) (W.done s _ _ st λs' hm=>?_);exact Zaj (r s' (hm.mono up) (X.at λo e=>hm.heap D o hDw e))
 |succ k ih=>
  intro i s hk hi st X r;refine codeAny_builtin F.entry_set_update_loop ?_;rw[Zbt F.plain_set_update_loop _];refine Zab (m:=pyNext (.ref I)) (W.item i s _ _ (by omega) st λv s' hP st' hm=>?_)
  obtain⟨q1,q2⟩:=hv i v hP;have X':=X.at (h':=s'.heap) λo e=>hm.heap D o hDw e;refine Zab (m:=holding [v] (setAdd D v)) (wpAny_holding ?_);unfold setAdd;refine wpAny_holding (Zab (knd.pyHash q1 ?_));refine Ry (s:={ s' with toks:=s'.toks+1 }) q1 q2 X' (by omega) λ_ h' sb X2=>?_
  rw[Hu] at X2;refine Zaj ⟨plainId_quiet F.plain_set_update_loop _,ih (i+1) _ (by omega) (by omega) (W.frame _ s' _ _ st' (Nat.le_succ _) λc hc o e=>?_) X2 λs2 hm2 X3=>?_⟩
  ·rw[sb.2 c λz=>hD (z▸hc)];exact e
  ·refine r s2 (Moved.trans W.gtrans ((hm.mono up).then_heap (Nat.le_succ _) λc o hc e=>?_) hm2) X3;rw[sb.2 c λz=>hc (by rw[z];exact List.mem_cons_self)];exact e
end
section
variable{prog:Program}{w:World}{K:Type}[DecidableEq K]{knd:KeyKind prog w K}{A:Around}{E:Value->Shared->Prop}{s:Shared}
theorem RC{l:Addr}{items:Array Value}{key:Nat->K}{Q:Value->Shared->Prop}(hh:A.handled=none)(hl:s.heap.IsList l items)(hv:∀ i v,items[i]?=some v->knd.is (key i) v=true/\v.scannable=true)(hb:items.size+1<scanBound)
  (h:∀ (h':Heap) (tk:Nat),lK knd h' s.heap.objs.size (!byT w) (seen key items.size) items.size->(∀ c o,s.heap.get? c=some o->h'.get? c=some o)->Q (.ref s.heap.objs.size) { s with heap:=h',toks:=tk }) :
  wpAny (model prog w) A (call (.type "set") [.ref l]) Q E s:=by
 obtain⟨c,tl,m1⟩:=Zb2.mro;have m2:=Zb2.made;have m3:=Zb2.sub;have m4:=Zb2.notType;have m5:=Zb2.canCreate;have m6:=F.typeCall_set_1 (.ref l);refine wpAny_call (codeAny_of_tree ?_);show wpAny _ _ (callAny (Value.type "set") _) _ _ _
 refine Zaj ⟨Code.quiet_builtin _ (by decide +kernel),codeAny_builtin F.entry_type_call ?_⟩
 rw[Around.under_plain (weight_type_call_type "set" [.ref l] []) rfl];repeat (any_goals (first|assumption|wp_step))
 refine codeAny_mono (Rz (.ref l) (E:=E) (Q:=λobj s₁=>obj=.ref s.heap.objs.size/\s₁={ s with heap:=s.heap.push (vD (!byT w)) }) ⟨rfl,rfl⟩) λr s₁ hr=>?_
 match r,hr with
 |.error e,hr=>exact hr
 |.ok (.ret obj),⟨e1,e2⟩=>
  subst e1;subst e2;have hS:(s.heap.push (vD (!byT w))).get? s.heap.objs.size=some (vD (!byT w)):=Zam _ rfl;have hT:Shared.TypeIs { s with heap:=s.heap.push (vD (!byT w)) } (.ref s.heap.objs.size) "set":=⟨_,hS,rfl⟩;have i1:=Zb2.init.lookup;have i2:=Zb2.init.bind (.ref s.heap.objs.size);repeat (any_goals (first|assumption|wp_step))
  refine codeAny_mono (codeAny_call_builtin (R:=wants (λr s₂=>r=.none/\∃ h' tk,s₂={ s with heap:=h',toks:=tk }/\lK knd h' s.heap.objs.size (!byT w) (seen key items.size) items.size/\∀ c o,s.heap.get? c=some o->h'.get? c=some o) E) Zb2.init.plain F.entry_set_init (check_set_init_1 hT ?_)) λr₂ s₂ hr₂=>?_
  ·obtain⟨ol,hol,hcl,nl,hdl⟩:=hl;obtain⟨oc,od,oda,osl⟩:=ol;simp only at hcl hdl;subst hcl;subst hdl;have hol':=Zac (vD (!byT w)) hol;have z1:=F.sub_list_set;have z2:=F.sub_list_frozenset;have z3:(Value.type "list"==Value.type "dict")=false:=by decide
   have hl1:(s.heap.push (vD (!byT w))).IsList l items:=⟨_,hol',rfl,nl,rfl⟩;unfold Builtin.«set.__init__» noKeywords Builtin.Frozenset.updateFrom;generalize hPI:pyIter=PI
   wp_walk
   subst hPI;refine wpAny_pyIter_list hl1 (Zab (wpAny_runValue ?_));have lt:=Zaq hol;have ne:l≠(s.heap.push (vD (!byT w))).objs.size:=by
    rw[ZbW];exact Zaz (Zbr lt)
   have hf:s.heap.objs.size ∉ [(s.heap.push (vD (!byT w))).objs.size,l]:=λq=>by
    rw[ZbW] at q;rcases Zay.mp q with e|q
    ·exact absurd e (Zaz (Nat.lt_succ_self _))
    ·exact absurd (Zai.mp q) (Zb1 lt)
   refine Om (b:=!byT w) ((Walks.list (A:=A.in1.in1.in1) (by simp[hh]) _ l ne items).toS) s.heap.objs.size hf key hv hb (items.size-0) 0 _ rfl (Zba _) ⟨⟨_,Zam _ rfl,rfl,rfl⟩,hl1.push _⟩ ?_ ?_
   ·exact(lK.fresh (knd:=knd) (b:=!byT w) (h:=s.heap)).at λo e=>Zac _ e
   ·intro s' hm X;rw[Moved.eq_with hm];refine Zaj (Zaj ⟨rfl,_,_,rfl,X,λc o e=>?_⟩);have lc:=Zaq e;refine hm.heap c o (λq=>?_) (Zac _ (Zac _ e));rcases Zay.mp q with q|q
    ·exact absurd q (Zaz lc)
    ·rw[ZbW] at q;exact absurd (Zai.mp q) (Zaz (Zbr lc))
  ·match r₂,hr₂ with
   |.error e,hr=>exact hr
   |.ok (.ret _),⟨e1,h',tk,e2,X,k⟩=>
    subst e1;subst e2;repeat (any_goals (first|assumption|wp_step))
    exact h _ _ X k
end
open PySem PySem.Spec PyProof PyProof.Rows
theorem slot_next:Slot "set_iterator" "__next__" "set_iterator.__next__":=
 .of (owner:="set_iterator") (n:="__next__") (by rw[typeLookup_type,builtinLookup_eq_fast];kernel_rfl) (by decide +kernel) (by decide +kernel) (by decide +kernel)
  (by first|exact .inl (by decide +kernel)|exact .inr (by decide +kernel)) (by rw[isSubtype_type];kernel_rfl)
theorem entry_next:entryFor table "set_iterator.__next__"=some Builtin.«set_iterator.__next__»:=entryFor_of_tree (by kernel_rfl)
theorem z7:Manifest.owners.lookup (String.ofList ['r','o','t','a','r','e','t','i','_','t','e','s'].reverse)=some Manifest.sig_set_iterator:=by kernel_rfl
theorem args_next(a:Value):argsOk "set_iterator.__next__" ⟨[a],[]⟩:=by
 unfold argsOk;rw[signature?_of (id:="set_iterator.__next__") (n:=['_','_','t','x','e','n','_','_']) (o:=['r','o','t','a','r','e','t','i','_','t','e','s']) (by kernel_rfl) z7];kernel_rfl
theorem CP:entryFor table "set.__iter__"=some Builtin.«frozenset.__iter__»:=entryFor_alias (id':="frozenset.__iter__") (by kernel_rfl) rfl (by decide +kernel) (by kernel_rfl)
def je(h:Heap)(a:Addr)(es:Array (Int×Value))(ep:Nat)(t:SetTable):Prop:=∃ o,h.get? a=some o/\o.cls=.type "set"/\o.data=.set es ep t
def It(h:Heap)(I:Addr)(f:Value)(i:Nat)(a:Addr)(n ep:Nat):Prop:=∃ o,h.get? I=some o/\o.cls=.type "set_iterator"/\o.data=.fields #[f,.int i 0,.ref a,.int n 0,.int ep 0]
theorem It.typeIs{s:Shared}{I:Addr}{f:Value}{i:Nat}{a:Addr}{n ep:Nat}(x:It s.heap I f i a n ep):s.TypeIs (.ref I) "set_iterator":=let⟨o,h,c,_⟩:=x;⟨o,h,c⟩
section
variable{prog:Program}{w:World}{A:Around}{E:Value->Shared->Prop}{s:Shared}{I a:Addr}{i ep:Nat}{es:Array (Int×Value)}{t:SetTable}
theorem TY{c c':Nat}{x:Value}{Q:Option Value->Shared->Prop}(hit:It s.heap I (.int c 0) i a es.size ep)(hs:je s.heap a es ep t)(hf:t.fits es.size=true)
  (hn:∀ (A:Around) (E:Value->Shared->Prop) (Q:Option (Value×Nat)->Shared->Prop),Q (some (x,c')) s->wpAny (model prog w) A (setNext a c i ep) Q E s)
  (hQ:∀ h',It h' I (.int c' 0) (i+1) a es.size ep->Heap.SameBut I s.heap h'->Q (some x) { s with heap:=h' }):wpAny (model prog w) A (pyNext (.ref I)) Q E s:=by
 obtain⟨o,ho,hc,hd⟩:=id hit;obtain⟨oa,hoa,hca,hda⟩:=id hs;unfold pyNext;refine Zab (wpAny_attempt (wpAny_callSpecial?_slot (name:=Str.ofString "__next__") hit.typeIs slot_next (wpAny_call_entry slot_next hit.typeIs entry_next ?_ (args_next _))));unfold Builtin.«set_iterator.__next__»;refine Zab (Zaj (Zab (wpAny_fieldsOf ho hd ?_)));show wpAny _ _ (setEntries a>>=_) _ _ s
 refine Zab (wpAny_setEntries_of hoa hda hf ?_);rw[Zak (by simp)]
 refine Zab (m:=setNext a c i ep) (hn _ _ _ ?_);refine Zab (wpAny_setField ho hd (by simp) ?_)
 have g1:=Zbv (Obj.mapFields (·.setIfInBounds 0 (rawInt c'))) ho (Obj.isFreed_of_fields (Zbi hd _));refine Zab (wpAny_setField g1 (Zbi hd _) (by simp) (Zaj ⟨x,rfl,Zaj (hQ _ ?_ ((Za0 ..).trans (Za0 ..)))⟩))
 refine⟨_,Zbv _ g1 (Obj.isFreed_of_fields (Zbi (Zbi hd _) _)),(Obj.cls_mapFields ..).trans ((Obj.cls_mapFields ..).trans hc),?_⟩;rw[Zbi (Zbi hd _)];simp[rawInt]
theorem endI{c:Nat}{Q:Option Value->Shared->Prop}(hh:A.handled=none)(hit:It s.heap I (.int c 0) i a es.size ep)(hs:je s.heap a es ep t)(hf:t.fits es.size=true)
  (hn:∀ (A:Around) (E:Value->Shared->Prop) (Q:Option (Value×Nat)->Shared->Prop),Q none s->wpAny (model prog w) A (setNext a c i ep) Q E s)
  (hQ:∀ h',Heap.ExtBut I s.heap h'->Q none { s with heap:=h' }):wpAny (model prog w) A (pyNext (.ref I)) Q E s:=by
 obtain⟨o,ho,hc,hd⟩:=id hit;obtain⟨oa,hoa,hca,hda⟩:=id hs;unfold pyNext;refine Zab (wpAny_attempt (wpAny_callSpecial?_slot (name:=Str.ofString "__next__") hit.typeIs slot_next (wpAny_call_entry slot_next hit.typeIs entry_next ?_ (args_next _))));unfold Builtin.«set_iterator.__next__»;refine Zab (Zaj (Zab (wpAny_fieldsOf ho hd ?_)));show wpAny _ _ (setEntries a>>=_) _ _ s
 refine Zab (wpAny_setEntries_of hoa hda hf ?_);rw[Zak (by simp)]
 refine Zab (m:=setNext a c i ep) (hn _ _ _ ?_);refine Zab (wpAny_setField ho hd (by simp) (Zab ?_))
 simp only[newExc,newTuple];refine Zab (wpAny_newObj_type ?_ (by size_fits))
 refine Zab (m:=firstArgMember _ _) (wpAny_of_eq (a:=Value.none) (by first|rfl|(simp only[firstArgMember];rfl)) ?_)
 refine wpAny_newObj_type ?_ (by size_fits)
 simp only[raiseNew];refine Zab (wpAny_handled ?_);rw[show A.in1.handled=none from hh];refine Zab (Zaj (wpAny_throw ?_));refine Zab (wpAny_isInstance (b:=true) (T:="StopIteration") ⟨_,Zam _ rfl,rfl⟩ isSubtype_stop ?_);exact Zaj (hQ _ (((Za0 ..).extBut.push _).push _))
end
open PySem PySem.Spec PyProof PyProof.Rows
theorem pq{α:Type}:∀ (l:List α) (i:Nat) (h:i<l.length),(l[i]::l.eraseIdx i).Perm l
 |x::l,0,_=>.refl _
 |x::l,i+1,h=>((List.Perm.swap x _ _)).trans ((pq l i (Nat.lt_of_succ_lt_succ h)).cons x)
theorem wF{α:Type}(nx:Nat->Nat):∀ (fuel k:Nat) (left:List α) (out:Array α),left.length=fuel->(pickOrder.go nx fuel k left out).toList.Perm (out.toList++left)
 |0,k,left,out,e=>by
  cases left with
  |nil=>rw[ZaS];exact .refl _
  |cons x l=>cases e
 |fuel+1,k,left,out,e=>by
  unfold pickOrder.go;have hi:nx k%left.length<left.length:=Nat.mod_lt _ (by omega)
  rw[Zaa hi];refine(wF nx fuel (k+1) _ _ (by rw[List.length_eraseIdx,Zal hi];omega)).trans ?_
  rw[Zbk,Zau];exact Zbe _ (pq _ _ hi)
theorem Oo{α:Type}(nx:Nat->Nat)(xs:Array α):(pickOrder nx xs).toList.Perm xs.toList:=by
 have:=wF nx xs.size 0 xs.toList #[] (by simp)
 simpa[pickOrder] using this
section
variable{prog:Program}{w:World}{A:Around}{E:Value->Shared->Prop}{s:Shared}{a:Addr}{i ep:Nat}{es:Array (Int×Value)}{t:SetTable}
theorem Hv{src:Source}{n:Nat}{Q:Nat->Shared->Prop}(hn:n≠0)(h:∀ r d,r<n->Q r { s with drawn:=d }):wpAny (model prog w) A (choose src n) Q E s:=
 λ_ _ _=>⟨hn,h _ _ (Nat.mod_lt _ (Nat.pos_of_ne_zero hn))⟩
theorem Fy{α:Type}:∀ (n:Nat) (xs:List α) (s:Shared) (Q:List α->Shared->Prop),xs.length=n->(∀ ys d,ys.Perm xs->Q ys { s with drawn:=d })->wpAny (model prog w) A (drawOrder n xs) Q E s
 |0,xs,s,Q,e,h=>by
  cases xs with
  |nil=>exact Zaj (h [] s.drawn (.refl _))
  |cons x l=>cases e
 |n+1,xs,s,Q,e,h=>by
  cases xs with
  |nil=>cases e
  |cons x l=>
   unfold drawOrder;refine Zab (Hv (by simp) λr d hr=>?_)
   rw[Zaa hr];refine Zab (Fy n _ _ _ (by rw[List.length_eraseIdx,Zal hr];simp at e ⊢;exact e) λys d' p=>Zaj ?_)
   exact h _ d' ((p.cons _).trans (pq _ _ hr))
theorem nT{Q:Bool->Shared->Prop}(h:Q (byT w) s):wpAny (model prog w) A setsByText Q E s:=by
 unfold setsByText;exact Zab (wpAny_askSetting (Zaj h))
theorem nextT{Q:Option (Value×Nat)->Shared->Prop}(hs:je s.heap a es ep t)(hf:t.fits es.size=true)(hb:byT w=true){c:Nat}
  (h:Q (((pickOrder (w.params.setOrder a ep) es)[i]?).map λe=>(e.2,c)) s):wpAny (model prog w) A (setNext a c i ep) Q E s:=by
 obtain⟨o,ho,hc,hd⟩:=hs;unfold setNext;refine Zab (wpAny_setState_of ho hd hf (Zab (nT ?_)));rw[hb,Zal rfl];dsimp only;rw[Zak (by simp)]
 unfold setWalk;refine Zab ?_;refine Zab (wpAny_setState_of ho hd hf (Zab (nT ?_)));rw[hb,Zal rfl];exact Zab (wpAny_askSetting (Zaj (Zaj h)))
theorem T3{Q:Option (Value×Nat)->Shared->Prop}(hs:je s.heap a es ep t)(hf:t.fits es.size=true)(hb:byT w=false)(hl:t.led=true)(hp:(!t.plain&&decide (es.size>1))=false){c:Nat}
  (h:Q (match es[SetTable.below t.place c]?,t.place[SetTable.below t.place c]? with|some (_,x),some j=>some (x,j+1)|_,_=>none) s):wpAny (model prog w) A (setNext a c i ep) Q E s:=by
 obtain⟨o,ho,hc,hd⟩:=hs;unfold setNext;refine Zab (wpAny_setState_of ho hd hf (Zab (nT ?_)));rw[hb,Zak Bool.false_ne_true];dsimp only;split
 ·rename_i q;exact absurd (show(!t.plain&&decide (es.size>1))=true from q) (by rw[hp];exact Bool.false_ne_true)
 ·refine Zab ?_;show wpAny _ _ (if(!t.led&&!es.isEmpty)=true then _ else _) _ _ _
  rw[hl,Zak (by simp)]
  exact Zaj (Zaj h)
end
open PySem PySem.Spec PyProof PyProof.Rows
theorem wG:Slot "set_iterator" "__iter__" "set_iterator.__iter__":=
 .of (owner:="set_iterator") (n:="__iter__") (by rw[typeLookup_type,builtinLookup_eq_fast];kernel_rfl) (by decide +kernel) (by decide +kernel) (by decide +kernel)
  (by first|exact .inl (by decide +kernel)|exact .inr (by decide +kernel)) (by rw[isSubtype_type];kernel_rfl)
theorem CQ:entryFor table "set_iterator.__iter__"=some Builtin.«dict_keyiterator.__iter__»:=entryFor_alias (id':="dict_keyiterator.__iter__") (by kernel_rfl) rfl (by decide +kernel) (by kernel_rfl)
theorem Hw(a:Value):argsOk "set_iterator.__iter__" ⟨[a],[]⟩:=by
 unfold argsOk;rw[signature?_of (id:="set_iterator.__iter__") (n:=['_','_','r','e','t','i','_','_']) (o:=['r','o','t','a','r','e','t','i','_','t','e','s']) (by kernel_rfl) z7];kernel_rfl
theorem It.at{h h':Heap}{I:Addr}{f:Value}{i:Nat}{a:Addr}{n ep:Nat}(x:It h I f i a n ep)(e:∀ o,h.get? I=some o->h'.get? I=some o):It h' I f i a n ep:=let⟨o,q,r⟩:=x;⟨o,e o q,r⟩
theorem je.at{h h':Heap}{a:Addr}{es:Array (Int×Value)}{ep:Nat}{t:SetTable}(x:je h a es ep t)(e:∀ o,h.get? a=some o->h'.get? a=some o):je h' a es ep t:=let⟨o,q,r⟩:=x;⟨o,e o q,r⟩
def TupAt(h:Heap)(p:Addr)(xs:Array Value):Prop:=∃ o n,h.get? p=some o/\o.data=.seq xs n
theorem TupAt.at{h h':Heap}{p:Addr}{xs:Array Value}(x:TupAt h p xs)(e:∀ o,h.get? p=some o->h'.get? p=some o):TupAt h' p xs:=let⟨o,n,q,r⟩:=x;⟨o,n,e o q,r⟩
section
variable{prog:Program}{w:World}{A:Around}{E:Value->Shared->Prop}{s:Shared}{I a:Addr}{i ep:Nat}{es:Array (Int×Value)}{t:SetTable}
theorem Fz{f:Value}{n:Nat}{Q:Value->Shared->Prop}(hit:It s.heap I f i a n ep)(h:Q (.ref I) s):wpAny (model prog w) A (pyIter (.ref I)) Q E s:=by
 refine wpAny_pyIter_slot hit.typeIs wG (wpAny_call_entry wG hit.typeIs CQ ?_ (Hw _));show wpAny _ _ (ret (.ref I)) _ _ s
 exact Zaj ⟨_,rfl,"set_iterator",_,hit.typeIs,slot_next.lookup,h⟩
theorem T4{p j:Nat}{ps:Array Value}{x:Int×Value}{Q:Option Value->Shared->Prop}(hit:It s.heap I (.ref p) i a es.size ep)(hs:je s.heap a es ep t)(hf:t.fits es.size=true)(ht:TupAt s.heap p ps)(hj:ps[i]?=some (.int j 0))(hx:es[j]?=some x)
  (hQ:∀ h',It h' I (.ref p) (i+1) a es.size ep->Heap.SameBut I s.heap h'->Q (some x.2) { s with heap:=h' }):wpAny (model prog w) A (pyNext (.ref I)) Q E s:=by
 obtain⟨o,ho,hc,hd⟩:=id hit;obtain⟨oa,hoa,hca,hda⟩:=id hs;obtain⟨op,np,hop,hdp⟩:=id ht;unfold pyNext;refine Zab (wpAny_attempt (wpAny_callSpecial?_slot (name:=Str.ofString "__next__") hit.typeIs slot_next (wpAny_call_entry slot_next hit.typeIs entry_next ?_ (args_next _))));unfold Builtin.«set_iterator.__next__»;refine Zab (Zaj (Zab (wpAny_fieldsOf ho hd ?_)));show wpAny _ _ (setEntries a>>=_) _ _ s
 refine Zab (wpAny_setEntries_of hoa hda hf ?_);rw[Zak (by simp)]
 refine Zab (m:=seqItems? (.ref p)) (wpAny_seqItems hop hdp ?_);simp only[ZaZ,hj];unfold setNextDrawn;refine Zab (Zab (wpAny_setState_of hoa hda hf ?_));dsimp only;rw[Zak (by simp),hx]
 refine Zaj (Zab (wpAny_setField ho hd (by simp) (Zaj ⟨x.2,rfl,Zaj (hQ _ ?_ (Za0 ..))⟩)))
 refine⟨_,Zbv _ ho (Obj.isFreed_of_fields (Zbi hd _)),(Obj.cls_mapFields ..).trans hc,?_⟩;rw[Zbi hd];simp[rawInt]
theorem Uw{p:Nat}{ps:Array Value}{Q:Option Value->Shared->Prop}(hh:A.handled=none)(hit:It s.heap I (.ref p) i a es.size ep)(hs:je s.heap a es ep t)(hf:t.fits es.size=true)(ht:TupAt s.heap p ps)(hj:ps[i]?=none)
  (hQ:∀ h',Heap.ExtBut I s.heap h'->Q none { s with heap:=h' }):wpAny (model prog w) A (pyNext (.ref I)) Q E s:=by
 obtain⟨o,ho,hc,hd⟩:=id hit;obtain⟨oa,hoa,hca,hda⟩:=id hs;obtain⟨op,np,hop,hdp⟩:=id ht;unfold pyNext;refine Zab (wpAny_attempt (wpAny_callSpecial?_slot (name:=Str.ofString "__next__") hit.typeIs slot_next (wpAny_call_entry slot_next hit.typeIs entry_next ?_ (args_next _))));unfold Builtin.«set_iterator.__next__»;refine Zab (Zaj (Zab (wpAny_fieldsOf ho hd ?_)));show wpAny _ _ (setEntries a>>=_) _ _ s
 refine Zab (wpAny_setEntries_of hoa hda hf ?_);rw[Zak (by simp)]
 refine Zab (m:=seqItems? (.ref p)) (wpAny_seqItems hop hdp ?_);simp only[ZaZ,hj];refine Zab (wpAny_setField ho hd (by simp) ?_)
 have g1:=Zbv (Obj.mapFields (·.setIfInBounds 0 (rawInt 0))) ho (Obj.isFreed_of_fields (Zbi hd _));refine Zab (wpAny_setField g1 (Zbi hd _) (by simp) (Zab ?_))
 simp only[newExc,newTuple];refine Zab (wpAny_newObj_type ?_ (by size_fits))
 refine Zab (m:=firstArgMember _ _) (wpAny_of_eq (a:=Value.none) (by first|rfl|(simp only[firstArgMember];rfl)) ?_)
 refine wpAny_newObj_type ?_ (by size_fits)
 simp only[raiseNew];refine Zab (wpAny_handled ?_);rw[show A.in1.handled=none from hh];refine Zab (Zaj (wpAny_throw ?_));refine Zab (wpAny_isInstance (b:=true) (T:="StopIteration") ⟨_,Zam _ rfl,rfl⟩ isSubtype_stop ?_);exact Zaj (hQ _ ((((Za0 ..).trans (Za0 ..)).extBut.push _).push _))
theorem T8(hh:A.handled=none)(ne:a≠I)(hf:t.fits es.size=true)(ord:Array Value)(sl:Nat->Nat)(hz:ord.size=es.size)
  (hn:∀ (i:Nat),i<=es.size->∀ (A:Around) (E:Value->Shared->Prop) (s:Shared) (Q:Option (Value×Nat)->Shared->Prop),je s.heap a es ep t->Q ((ord[i]?).map λx=>(x,sl (i+1))) s->wpAny (model prog w) A (setNext a (sl i) i ep) Q E s) :
  Walks prog w A I [I,a] [I] es.size (λi v=>ord[i]?=some v) (λi h=>It h I (.int (sl i) 0) i a es.size ep/\je h a es ep t) where
 sub:=λb hb=>by simp at hb;simp[hb]
 frame:=λ_ _ _ st k=>⟨st.1.at λo e=>k I (by simp) o e,st.2.at λo e=>k a (by simp) o e⟩
 item:=λi s Q E hi st hQ=>by
  have e:ord[i]?=some ord[i]:=Zar (by omega)
  refine TY st.1 st.2 hf (x:=ord[i]'(by omega)) (c':=sl (i+1)) (λA E Q q=>hn i (by omega) A E s Q st.2 (by rw[e];exact q)) λh' it sb=>?_
  exact hQ _ h' s.toks e ⟨it,st.2.at λo q=>sb.extBut a o ne q⟩ λb o hb q=>sb.extBut b o (λz=>hb (by simp[z])) q
 done:=λs Q E st hQ=>endI hh st.1 st.2 hf (λA E Q q=>hn _ (Zaf _) A E s Q st.2 (by rw[Array.getElem?_eq_none (by omega)];exact q)) λh' k=>hQ h' s.toks λb o hb q=>k b o (λz=>hb (by simp[z])) q
 self:=λ_ _ _ _ st hQ=>Fz st.1 hQ
theorem T9{p:Nat}(hh:A.handled=none)(ne:a≠I)(np:p≠I)(hf:t.fits es.size=true)(ys:List Nat)(hl:ys.length=es.size)(hy:∀ j∈ys,j<es.size) :
  Walks prog w A I [I,a,p] [I] es.size (λi v=>∃ j e,ys[i]?=some j/\es[j]?=some e/\v=e.2) (λi h=>It h I (.ref p) i a es.size ep/\je h a es ep t/\TupAt h p (ys.map λ(j:Nat)=>rawInt j).toArray) where
 sub:=λb hb=>by simp at hb;simp[hb]
 frame:=λ_ _ _ st k=>⟨st.1.at λo e=>k I (by simp) o e,st.2.1.at λo e=>k a (by simp) o e,st.2.2.at λo e=>k p (by simp) o e⟩
 item:=λi s Q E hi st hQ=>by
  have hi':i<ys.length:=by omega
  have hj:=hy ys[i] (Zbq hi');refine T4 st.1 st.2.1 hf st.2.2 (j:=ys[i]) (x:=es[ys[i]]) (by simp[Zaa hi',rawInt]) (Zar hj) λh' it sb=>?_
  exact hQ _ h' s.toks ⟨_,_,Zaa hi',Zar hj,rfl⟩ ⟨it,st.2.1.at λo q=>sb.extBut a o ne q,st.2.2.at λo q=>sb.extBut p o np q⟩ λb o hb q=>sb.extBut b o (λz=>hb (by simp[z])) q
 done:=λs Q E st hQ=>Uw hh st.1 st.2.1 hf st.2.2 (by simp[hl]) λh' k=>hQ h' s.toks λb o hb q=>k b o (λz=>hb (by simp[z])) q
 self:=λ_ _ _ _ st hQ=>Fz st.1 hQ
def itO(f:Value)(a:Addr)(n ep:Nat):Obj:={ cls:=.type "set_iterator",data:=.fields #[f,.int 0 0,.ref a,.int n 0,.int ep 0] }
theorem Oq{Q:Value->Shared->Prop}(hs:je s.heap a es ep t)(hf:t.fits es.size=true)(hz:es.size<=sizeLine)
  (h1:byT w=true\/(!t.plain&&decide (es.size>1))=false->Q (.ref s.heap.objs.size) { s with heap:=s.heap.push (itO (.int 0 0) a es.size ep) })
  (h2:∀ (ys:List Nat) d,ys.Perm (List.range es.size)->Q (.ref (s.heap.objs.size+1)) { s with heap:=(s.heap.push { cls:=.type "tuple",data:=.seq (ys.map λ(j:Nat)=>rawInt j).toArray }).push (itO (.ref s.heap.objs.size) a es.size ep),drawn:=d }) :
  wpAny (model prog w) A (pyIter (.ref a)) Q E s:=by
 obtain⟨o,ho,hc,hd⟩:=id hs;have hT:s.TypeIs (.ref a) "set":=⟨o,ho,hc⟩;refine wpAny_pyIter_slot hT F.slot_set_iter (wpAny_call_entry F.slot_set_iter hT CP ?_ (F.args_set_iter_1 _));unfold Builtin.«frozenset.__iter__»;refine Zab (Zaj ?_);unfold Builtin.Frozenset.sizeOf;refine Zab (Zab (wpAny_setEntries_of ho hd hf (Zaj ?_)));unfold setDrawn;refine Zab (Zab (wpAny_setState_of ho hd hf (Zab (nT (Zaj ?_)))));dsimp only;split
 ·refine Zab (Fy _ _ _ _ (List.length_range) λys d p=>?_);have hl:ys.length=es.size:=by rw[p.length_eq,List.length_range]
  refine Zab (wpAny_newTuple ?_ (by rw[List.length_map,hl];exact hz))
  have ho':=Zac { cls:=.type "tuple",data:=.seq (ys.map λ(j:Nat)=>rawInt j).toArray } ho;refine Zab (wpAny_setEpoch_of ho' hd hf (Zab (wpAny_newObj_type (Zaj ⟨_,rfl,"set_iterator",_,⟨_,Zam _ rfl,rfl⟩,slot_next.lookup,?_⟩))));have:=h2 ys d p;rw[show s.heap.objs.size+1=(s.heap.push { cls:=.type "tuple",data:=.seq (ys.map λ(j:Nat)=>rawInt j).toArray }).objs.size from(ZbW _ _).symm] at this;exact this
 ·rename_i c;have c:¬(!byT w&&(!t.plain&&decide (es.size>1)))=true:=c;refine Zab (Zaj (Zab (wpAny_setEpoch_of ho hd hf (Zab (wpAny_newObj_type (Zaj ⟨_,rfl,"set_iterator",_,⟨_,Zam _ rfl,rfl⟩,slot_next.lookup,h1 ?_⟩))))));cases q:byT w with
  |true=>exact .inl rfl
  |false=>rw[q] at c;exact .inr (Bool.eq_false_iff.mpr c)
end
open PySem PySem.Spec PyProof PyProof.Rows
theorem z8{P:Nat->Value->Prop}{acc:Array Value}{n:Nat}(L:List Value)(hl:L.length=n)(h:ItemsOf P acc n)(hp:∀ j v,P j v->L[j]?=some v):acc.toList=L:=by
 refine Zbj λj=>?_;rcases ZbL j n with q|q
 ·have hj:j<acc.size:=by rw[h.1];exact q
  rw[ZaK,Zar hj];exact(hp j _ (h.2 j _ (Zar hj))).symm
 ·rw[Zat (by rw[ZaC,h.1];exact q),Zat (by omega)]
theorem wI{t:SetTable}{n:Nat}(h:t.fits n=true):t.place.size=n:=by
 simp only[SetTable.fits,Bool.and_eq_true,beq_iff_eq] at h;exact h.1
def slots(t:SetTable):Nat->Nat
 |0=>0
 |i+1=>t.place.getD i 0+1
theorem KD{b:Bool}{t:SetTable}(g:Good b t):∀ {i:Nat},i<=t.place.size->SetTable.below t.place (slots t i)=i
 |0,_=>CG g.inc
 |i+1,h=>by
  have e:t.place[i]?=some (t.place.getD i 0):=by
   rw[ZaO,Zar h];rfl
  exact CJ g.inc e
section
variable{prog:Program}{w:World}{K:Type}[DecidableEq K]{knd:KeyKind prog w K}{S:K->Bool}{A:Around}{E:Value->Shared->Prop}{s:Shared}{a:Addr}{n:Nat}{es:Array (Int×Value)}{t:SetTable}{ep:Nat}
theorem Ot{Q:Bool->Shared->Prop}(hT:s.TypeIs (.ref a) "set")(h:Q false s):wpAny (model prog w) A (Builtin.List.listLengthHint (.ref a)) Q E s:=by
 unfold Builtin.List.listLengthHint;refine Zab (wpAny_specialOf hT F.slot_set_len.lookup ?_);generalize q:("set.__len__":String)=nm
 wp_delta
 rw[show splitId nm=some ("set","__len__") from by subst q;decide +kernel]
 subst q;refine Zab (wpAny_isInstance (b:=true) (T:="set") hT (by rw[isSubtype_type];kernel_rfl) ?_)
 refine wpAny_ite_split (λz=>absurd z (by decide)) λ_=>?_
 refine wpAny_ite_split (λ_=>?_) λz=>absurd (by decide +kernel) z
 exact Zab (wpAny_typeOf hT (Zaj h))
theorem Qq{R:Result->Shared->Prop}{D I:Addr}{fp wr:List Addr}{P:Nat->Value->Prop}{St:Nat->Heap->Prop}{c:Nat}(hS:s.heap.get? D=some { cls:=.type "list",data:=.seq #[] c })(hDf:D ∉ fp)(hn:n<=sizeLine)
  (W:Walks prog w A.in1 I fp wr n P St)(st:St 0 s.heap)
  (h:∀ s' acc c',Moved (D::wr) (λx y=>y=x) s s'->s'.heap.get? D=some { cls:=.type "list",dict:=none,data:=.seq acc c',slots:=#[] }->ItemsOf P acc n->R (.ok (.ret (.ref D))) s') :
  wpAny (model prog w) A.in1 (again (.builtin "list.extend.loop" ⟨[.ref D,.ref I,.ref D],[]⟩)) (λfin s'=>match fin with|.done f=>R (.ok f) s'|.again c'=>c'.quiet=true/\codeAny (model prog w) A c' R s') (λe s'=>R (.error e) s') s:=
 Zaj ⟨plainId_quiet F.plain_extend_loop _,codeAny_extend_loopS W.toS hn D hDf _ n 0 _ _ _ rfl (Zba _) st hS (ItemsOf.nil P) h⟩
theorem Ua{R:Result->Shared->Prop}{D I:Addr}{fp wr:List Addr}{P:Nat->Value->Prop}{St:Nat->Heap->Prop}{c:Nat}(hS:s.heap.get? D=some { cls:=.type "list",data:=.seq #[] c })(hDf:D ∉ fp)(hn:n<=sizeLine)
  (W:Walks prog w A.in1 I fp wr n P St)(st:St 0 s.heap)
  (h:∀ s' acc c',Moved (D::wr) (λx y=>y=x) s s'->s'.heap.get? D=some { cls:=.type "list",dict:=none,data:=.seq acc c',slots:=#[] }->ItemsOf P acc n->R (.ok (.ret (.ref D))) s') :
  wpAny (model prog w) A.in1 (rule "list.extend.makes-room">>=λ_=>Builtin.List.listTouch (.ref D)>>=λ_=>again (.builtin "list.extend.loop" ⟨[.ref D,.ref I,.ref D],[]⟩)) (λfin s'=>match fin with|.done f=>R (.ok f) s'|.again c'=>c'.quiet=true/\codeAny (model prog w) A c' R s') (λe s'=>R (.error e) s') s:=by
 have g1:=Zbv (Obj.mapSeq (·.push Value.none)) hS rfl;have g2:=Zbv (Obj.mapSeq (·.pop)) g1 rfl;have oth:∀ b o,b≠D->s.heap.get? b=some o->((s.heap.update D (Obj.mapSeq (·.push Value.none))).update D (Obj.mapSeq (·.pop))).get? b=some o:=λb o hb e=>
  (Heap.get?_update_other _ _ (Zbs hb)).trans ((Heap.get?_update_other _ _ (Zbs hb)).trans e)
 refine Zab (wpAny_rule (Zab ?_));refine Zab (m:=updateSeq D (·.push .none)) (wpAny_updateSeq hS rfl ?_);refine wpAny_updateSeq (hz:=by seq_fits) g1 rfl ?_
 refine Qq g2 hDf hn W (W.frame 0 _ _ st λb hb o e=>oth b o (λz=>hDf (z▸hb)) e) λs' acc c' m q1 q2=>h s' acc c' ?_ q1 q2;exact Moved.trans (λ_ _ _ e1 e2=>e2.trans e1) ((Moved.refl (G:=λx y=>y=x) λ_=>rfl).then_heap (Zaf _) λb o hb e=>oth b o (λz=>hb (by rw[z];exact List.mem_cons_self)) e) m
theorem z9{R:Result->Shared->Prop}{D I:Addr}{fp wr:List Addr}{P:Nat->Value->Prop}{St:Nat->Heap->Prop}{c:Nat}(q:Bool)(hT:s.TypeIs (.ref a) "set")(hS:s.heap.get? D=some { cls:=.type "list",data:=.seq #[] c })(hDf:D ∉ fp)(hn:n<=sizeLine)
  (W:Walks prog w A.in1 I fp wr n P St)(st:St 0 s.heap)
  (h:∀ s' acc c',Moved (D::wr) (λx y=>y=x) s s'->s'.heap.get? D=some { cls:=.type "list",dict:=none,data:=.seq acc c',slots:=#[] }->ItemsOf P acc n->R (.ok (.ret (.ref D))) s') :
  wpAny (model prog w) A.in1 (holding [Value.ref I] (Builtin.List.listLengthHint (.ref a))>>=λroom=>if(room||q)=true then(rule "list.extend.makes-room">>=λ_=>Builtin.List.listTouch (.ref D)>>=λ_=>again (.builtin "list.extend.loop" ⟨[.ref D,.ref I,.ref D],[]⟩)) else again (.builtin "list.extend.loop" ⟨[.ref D,.ref I,.ref D],[]⟩))
   (λfin s'=>match fin with|.done f=>R (.ok f) s'|.again c'=>c'.quiet=true/\codeAny (model prog w) A c' R s') (λe s'=>R (.error e) s') s:=by
 refine Zab (wpAny_holding (Ot hT ?_));split
 ·exact Ua hS hDf hn W st h
 ·exact Qq hS hDf hn W st h
theorem Hy{R:Result->Shared->Prop}{D:Addr}{c:Nat}(hh:A.handled=none)(X:lK knd s.heap a (!byT w) S n)(hS:s.heap.get? D=some { cls:=.type "list",data:=.seq #[] c })(hD:D≠a)
  (h:∀ (h':Heap) d (tk:Nat) (acc:Array Value) (c':Nat) (es:Array (Int×Value)),(∀ b o,b≠D->s.heap.get? b=some o->h'.get? b=some o)->h'.get? D=some { cls:=.type "list",dict:=none,data:=.seq acc c',slots:=#[] }->Els knd S es->es.size<=n->acc.toList.Perm (es.toList.map (·.2))->R (.ok (.ret (.ref D))) { s with heap:=h',drawn:=d,toks:=tk }) :
  wpAny (model prog w) A.in1 (Builtin.List.listExtendWith (.ref D) (.ref a) (.ref D)) (λfin s'=>match fin with|.done f=>R (.ok f) s'|.again c'=>c'.quiet=true/\codeAny (model prog w) A c' R s') (λe s'=>R (.error e) s') s:=by
 obtain⟨o,es,ep,t,ho,hex,hd,el,hb,hf,g,hn⟩:=X;have hz:=fits_of_scanBound hb;have hs:je s.heap a es ep t:=⟨o,ho,hex.1,hd⟩;have hT:s.TypeIs (.ref a) "set":=⟨o,ho,hex.1⟩;have hDl:=Zaq hS;have hal:=Zaq ho;unfold Builtin.List.listExtendWith;refine Zab (wpAny_typeOf hT ?_);rw[Zak (by simp[Builtin.List.listSameRef,hD])]
 refine Zab (Oq hs hf hz (λm=>?_) λys d p=>?_)
 ·have ne:a≠s.heap.objs.size:=Zaz hal;have nD:D ∉ [s.heap.objs.size,a]:=λq=>by
   rcases Zay.mp q with q|q
   ·exact absurd q (Zaz hDl)
   ·exact hD (Zai.mp q)
  obtain⟨ord,sl,po,s0,hx⟩:∃ (ord:Array Value) (sl:Nat->Nat),ord.toList.Perm (es.toList.map (·.2))/\sl 0=0/\∀ (i:Nat),i<=es.size->∀ (A:Around) (E:Value->Shared->Prop) (s:Shared) (Q:Option (Value×Nat)->Shared->Prop),je s.heap a es ep t->Q ((ord[i]?).map λx=>(x,sl (i+1))) s->wpAny (model prog w) A (setNext a (sl i) i ep) Q E s:=by
   cases q:byT w with
   |true=>
    refine⟨(pickOrder (w.params.setOrder a ep) es).map (·.2),λ_=>0,?_,rfl,λi _ A E s Q hs' hq=>nextT hs' hf q ?_⟩
    ·rw[Array.toList_map];exact(Oo _ es).map _
    ·rw[Array.getElem?_map,Option.map_map] at hq;exact hq
   |false=>
    rw[q] at g;refine⟨es.map (·.2),slots t,by rw[Array.toList_map],rfl,λi hi A E s Q hs' hq=>T3 hs' hf q g.led (m.resolve_left (by rw[q];exact Bool.false_ne_true)) ?_⟩
    rw[KD g (by rw[wI hf];exact hi)]
    rw[Array.getElem?_map] at hq;rcases ZbL i es.size with l|l
    ·rw[Zar l] at hq ⊢;have e:t.place[i]?=some (t.place.getD i 0):=by
      rw[ZaO,Zar (by rw[wI hf];exact l)];rfl
     rw[e];exact hq
    ·rw[Array.getElem?_eq_none l] at hq ⊢;exact hq
  have hz':ord.size=es.size:=by rw[<-ZaC,po.length_eq,List.length_map,ZaC]
  have W:=T8 (prog:=prog) (w:=w) (A:=A.in1.in1) (I:=s.heap.objs.size) (t:=t) (ep:=ep) hh ne hf ord sl hz' hx;exact z9 (s:={ s with heap:=s.heap.push (itO (.int 0 0) a es.size ep) }) (R:=R) (D:=D) (c:=c) _ ⟨o,Zac _ ho,hex.1⟩ (Zac _ hS) nD hz W.of_in1 ⟨⟨_,Zam _ rfl,rfl,by rw[s0];rfl⟩,hs.at λo e=>Zac _ e⟩ λs' acc c' m q1 q2=>by
   rw[Moved.eq_with m];refine h s'.heap s.drawn s'.toks acc c' es (λb o hb e=>m.heap b o (λz=>?_) (Zac _ e)) q1 el hn ?_
   ·rcases Zay.mp z with z|z
    ·exact hb z
    ·exact absurd (Zai.mp z) (Zaz (Zaq e))
   ·rw[z8 ord.toList (by rw[ZaC,hz']) q2 λj v e=>by rw[ZaK];exact e]
    exact po
 ·have hl:ys.length=es.size:=by rw[p.length_eq,List.length_range]
  have hI:s.heap.objs.size+1=(s.heap.push { cls:=.type "tuple",data:=.seq (ys.map λ(j:Nat)=>rawInt j).toArray }).objs.size:=(ZbW _ _).symm;have ne:a≠s.heap.objs.size+1:=Zaz (Zbr hal);have nD:D ∉ [s.heap.objs.size+1,a,s.heap.objs.size]:=λq=>by
   rcases Zay.mp q with q|q
   ·exact absurd q (Zaz (Zbr hDl))
   ·rcases Zay.mp q with q|q
    ·exact hD q
    ·exact absurd (Zai.mp q) (Zaz hDl)
  have W:=T9 (prog:=prog) (w:=w) (A:=A.in1.in1) (I:=s.heap.objs.size+1) (p:=s.heap.objs.size) (t:=t) (ep:=ep) hh ne (Zaz (Nat.lt_succ_self _)) hf ys hl λj hj=>ZaR.mp (p.mem_iff.mp hj);have up:∀ {b o},s.heap.get? b=some o->((s.heap.push { cls:=.type "tuple",data:=.seq (ys.map λ(j:Nat)=>rawInt j).toArray }).push (itO (.ref s.heap.objs.size) a es.size ep)).get? b=some o:=λe=>Zac _ (Zac _ e);refine z9 (s:={ s with heap:=(s.heap.push { cls:=.type "tuple",data:=.seq (ys.map λ(j:Nat)=>rawInt j).toArray }).push (itO (.ref s.heap.objs.size) a es.size ep),drawn:=d }) (R:=R) (D:=D) (c:=c) _ ⟨o,up ho,hex.1⟩ (up hS) nD hz W.of_in1 ⟨⟨_,by rw[hI];exact Zam _ rfl,rfl,rfl⟩,hs.at λo e=>up e,⟨_,0,Zac _ (Zam _ rfl),rfl⟩⟩ λs' acc c' m q1 q2=>?_
  rw[Moved.eq_with m];refine h s'.heap d s'.toks acc c' es (λb o hb e=>m.heap b o (λz=>?_) (up e)) q1 el hn ?_
  ·rcases Zay.mp z with z|z
   ·exact hb z
   ·exact absurd (Zai.mp z) (Zaz (Zbr (Zaq e)))
  ·have ea:acc.toList=ys.map λj=>((es[j]?).map (·.2)).getD .none:=z8 _ (by rw[List.length_map,hl]) q2 λj v ⟨k,e,e1,e2,e3⟩=>by
    rw[Zae,e1,ZbB,e2,e3];rfl
   rw[ea];refine(p.map _).trans ?_;rw[show(List.range es.size).map (λj=>((es[j]?).map (·.2)).getD Value.none)=es.toList.map (·.2) from ?_];refine List.ext_getElem (by simp) λi h1 h2=>?_
   have hi:i<es.size:=by simpa using h1
   simp[hi]
theorem CT{R:List Value->Shared->Prop}(hh:A.handled=none)(X:lK knd s.heap a (!byT w) S n)
  (h:∀ (h':Heap) d (tk:Nat) (vs:List Value) (es:Array (Int×Value)),(∀ b o,s.heap.get? b=some o->h'.get? b=some o)->Els knd S es->es.size<=n->vs.Perm (es.toList.map (·.2))->R vs { s with heap:=h',drawn:=d,toks:=tk }) :
  wpAny (model prog w) A (collect (.ref a)) R E s:=by
 have hal:a<s.heap.objs.size:=by obtain⟨o,_,_,_,ho,_⟩:=X;exact Zaq ho
 unfold collect;refine Zab (wpAny_runValue (codeAny_builtin F.entry_proto_collect ?_));rw[Zbt F.plain_proto_collect _];refine Zab (m:=newList []) (wpAny_newObj_type ?_);refine Zaj ⟨plainId_quiet F.plain_list_iadd _,codeAny_builtin F.entry_list_iadd ?_⟩;rw[Zbt F.plain_list_iadd _];show wpAny _ A.in1 (Builtin.List.listExtendWith (.ref s.heap.objs.size) (.ref a) (.ref s.heap.objs.size)) _ _ _
 have key:=Hy (s:={ s with heap:=s.heap.push { cls:=.type "list",data:=.seq ([]:List Value).toArray } }) (knd:=knd) (S:=S) (n:=n) (c:=0) (D:=s.heap.objs.size) (A:=A)
  (R:=λq s'=>∃ h' d tk acc c' es,q=.ok (.ret (.ref s.heap.objs.size))/\s'={ s with heap:=h',drawn:=d,toks:=tk }/\(∀ b o,s.heap.get? b=some o->h'.get? b=some o)/\h'.get? s.heap.objs.size=some { cls:=.type "list",dict:=none,data:=.seq acc c',slots:=#[] }/\Els knd S es/\es.size<=n/\acc.toList.Perm (es.toList.map (·.2)))
  hh (X.at λo e=>Zac _ e) (Zam _ rfl) (Zb1 hal) λh' d tk acc c' es k q1 el hn p=>
   ⟨h',d,tk,acc,c',es,rfl,rfl,λb o e=>k b o (Zaz (Zaq e)) (Zac _ e),q1,el,hn,p⟩
 refine Zbl key (λf s' x=>?_) λe s' x=>?_
 ·match f,x with
  |.done g,⟨h',d,tk,acc,c',es,e,e2,k,q1,el,hn,p⟩=>
   subst e2;cases e;exact Zab (wpAny_load q1 (Zaj (h h' d tk acc.toList es k el hn p)))
  |.again g,⟨x1,x2⟩=>
   refine⟨x1,codeAny_mono x2 λr s₂ y=>?_⟩;obtain⟨h',d,tk,acc,c',es,rfl,rfl,k,q1,el,hn,p⟩:=y;exact Zab (wpAny_load q1 (Zaj (h h' d tk acc.toList es k el hn p)))
 ·obtain⟨_,_,_,_,_,_,z,_⟩:=x;cases z
end
end L2.SE
namespace L2
open PySem PySem.Spec PyProof PyProof.Rows
def dd:List Int->List Int
 |[]=>[]
 |x::l=>if x∈l then dd l else x::dd l
theorem Inv.drawn{X:Cx}{pins:List (Addr×Obj)}{σ:List (Option V)}{H:Hp}{s:Shared}{d}(I:Inv X pins σ H s):Inv X pins σ H { s with drawn:=d }:=⟨I.ok,I.os,I.bare,I.base,I.loc,I.cell,I.free,I.freeC,I.pin,I.hok,I.len⟩
namespace MP
end MP
namespace MP
end MP
end L2
namespace L2.MP
open PySem PySem.Spec PyProof.Rows
open PySem PySem.Spec PyProof PyProof.Rows
section
variable{K:Frag}{C:Cg}{te tb:TE}{F F1 F2 H H1 H2:Hp}{σ:St}{ρ:Rho}{D:Ends}{S:Addr->Prop}{v:V}{p:PV}
def jH(i:Nat)(fk fe:Fn PV):Sn:=λρ=>match vB i ρ with
 |some (.dk l)=>if l.length<sizeLine then jE (fk ρ) λkp=>match pZ kp with
  |some k=>match(bZ l k).getD (.lst []) with
   |.lst row=>jE (fe (ρ.set i (some (.dp (.dk (bj l k (.lst row))))))) λq=>if q.still=true/\row.length<sizeLine then some (.nx (ρ.set i (some (.dp (.dk (bj l k (.lst (row++[q]))))))))
    else none
   |_=>none
  |none=>none else none
 |_=>none
theorem uG{i:Nat}{l:List (Key×PV)}{k:Key}{row:List PV}{q:PV}{P:Nat->Addr->Prop}{a b:Addr}{xs:List (Key×V)}{w:V}(R:RE K C.toCf F H σ ρ)(d:RD K C.toCf F H σ ρ P)(ei:ρ[i]?=some (some (.dp (.dk l))))(es:σ[i]?=some (some (.ref a)))(ha:H a=some (.dK xs))(hv:gR xs k=some (.ref b))(hp:bZ l k=some (.lst row))(rep:Rep K F w q)(st:q.still=true) :
  ∃ ys,H b=some (.lst ys)/\ys.length=row.length/\RE K C.toCf F (upd H b (.lst (ys++[w]))) σ (ρ.set i (some (.dp (.dk (bj l k (.lst (row++[q]))))))):=by
 obtain⟨v,e1,dp⟩:=d.dp i _ ei;rw[es] at e1;cases e1;obtain⟨T,a',xs',ea,ha',Pa,hT,dj,hkeys,hch⟩:=dp.yc;cases ea;rw[ha] at ha';cases ha';obtain⟨j,w',lj,xj,hvw,hput⟩:=nQ hkeys hp;rw[hv] at hvw;cases hvw;obtain⟨T2,b',ys,eb,hb,sb,ht2,ds2⟩:=(hch j _ _ xj lj).cj;have eb:V.ref b=.ref b':=eb;cases eb;have nab:a≠b:=λz=>(hT j b sb).2 z.symm;have nt:∀ c zs,H c=some (.tup zs)->upd H b (.lst (ys++[w])) c=some (.tup zs):=λc zs z=>by
  rw[aq (λy=>by subst y;rw[hb] at z;cases z)];exact z
 refine⟨ys,hb,ds2.1,?_⟩;refine R.J3 d ei es (hT j b sb).1 (λzs z=>by cases z) (S':=P i) (.dk (S:=T) (xs:=xs) (by rw[aq nab];exact ha) Pa hT dj (by rw[hput,Ke lj];exact hkeys) λm x r h1 h2=>?_) λc z=>.inl z
 rw[hput] at h2;rcases get_set h2 with⟨f1,f2⟩|⟨f1,f2⟩
 ·subst f1;subst f2;rw[xj] at h1;cases h1;exact Dp.snoc hb sb ht2 ds2 rep st
 ·exact(hch m x r h1 f2).up (aR.refl _) (λc o z y=>by rw[aq (λe=>by subst e;exact f1 (dj j m c sb z))];exact y) nt
theorem uH{i:Nat}{fk fe:Fn PV}(hk:MJ K C (aF K) tb fk)(he:MJ K C (aF K) te fe) :
  MS K C (Iz (tBM K "list" xg (zK (pJ i) tb (QK pK)) (jk te pK))) (jH i fk fe):=by
 intro F H σ ρ D o R e Pq;unfold jH at e;split at e
 case h_2=>cases e
 rename_i l hl;split at e
 case isFalse=>cases e
 rename_i hlen;obtain⟨P0,d0⟩:=R.dd;obtain⟨v0,e0,dp0⟩:=d0.dp i _ (gF hl);obtain⟨_,a,xs0,rfl,ha0,_⟩:=dp0.yc;refine⟨_,e0,a,rfl,.inl ⟨xs0,.inl ha0⟩,?_⟩;rcases dC e with⟨z,e1,rfl⟩|⟨kp,e1,hk1⟩
 ·exact hk F H σ ρ _ _ R e1 Pq
 refine hk F H σ ρ _ _ R e1 λy F1 H1 u ry=>?_;split at hk1
 case h_2=>cases hk1
 rename_i k hkk;split at hk1
 case h_2=>cases hk1
 rename_i row hrow;cases p6 hkk ry;refine⟨Zba _,λn hn=>?_⟩;have u1:Up F1 H1 F1 (upd H1 n (.lst [])):=Up.vq u.fh hn;have RA:=R.up u;obtain⟨P1,dA⟩:=RA.dd;have R1:=RA.up u1;have d1:=dA.up u1;obtain⟨v1,e1',dp1⟩:=d1.dp i _ (gF hl);rw[e0] at e1';cases e1';obtain⟨T,a',xs,ea,ha,Pa,hT,dj,hkeys,hch⟩:=dp1.yc;cases ea;have lx:xs.length=l.length:=by have:=ZbI List.length hkeys;simpa using this
 refine⟨xs,k,ha,rfl,by rw[lx];exact hlen,λv hv=>?_,λhv=>?_⟩
 ·cases hvl:bZ l k with
  |none=>rw[(uy hkeys hvl).1] at hv;cases hv
  |some q0=>
   rw[hvl] at hrow;have hrow:q0=.lst row:=hrow;subst hrow;rw[zX hvl,zJ (gF hl)] at hk1;obtain⟨j,w',lj,xj,hvw,_⟩:=nQ hkeys hvl;rw[hv] at hvw;cases hvw;obtain⟨T2,b,ys,eb,hb,sb,_,_⟩:=(hch j _ _ xj lj).cj;have eb:v=.ref b:=eb;subst eb;refine⟨tyL hb,?_⟩;rcases dC hk1 with⟨z,e2,rfl⟩|⟨q,e2,hk2⟩
   ·exact he F1 _ σ ρ _ _ R1 e2 (PX.up Pq (u.trans u1).ff)
   split at hk2
   case isFalse=>cases hk2
   rename_i hq;cases hk2;refine he F1 _ σ ρ _ _ R1 e2 λw F2 H2 u2 rep=>?_;obtain⟨ys2,hb2,yl,RR⟩:=uG (R1.up u2) (d1.up u2) (gF hl) e0 (u2.hh _ _ ha) hv hvl rep hq.1;exact⟨b,ys2,w,rfl,rfl,hb2,by rw[yl];exact hq.2,Pq F2 _ σ ((u.trans u1).trans u2).ff RR⟩
 ·cases hvl:bZ l k with
  |some q0=>
   obtain⟨j,w',_,_,hvw,_⟩:=nQ hkeys hvl;rw[hv] at hvw;cases hvw
  |none=>
   rw[hvl] at hrow;have hrow:row=[]:=by
    have:PV.lst []=.lst row:=hrow;cases this;rfl
   subst hrow;have hput:=(uy hkeys hvl).2;rw[Jk _ hv];have hn2:upd H1 n (.lst []) n=some (.lst []):=aA;have inP:∀ j x,P1 j x->x≠n:=λj x z y=>by
    subst y;obtain⟨_,⟨o,k2,_⟩,_⟩:=dA.own j x z;rw[hn] at k2;cases k2
   have nna:n≠a:=λz=>inP i a Pa z.symm;have il:=cD (gF hl);have R3:RE K C.toCf F1 (upd (upd H1 n (.lst [])) a (.dK (xs++[(k,.ref n)]))) σ (ρ.set i (some (.dp (.dk (bj l k (.lst [])))))):=by
    refine R1.J3 d1 (gF hl) e0 Pa (λzs z=>by cases z) (S':=λc=>P1 i c\/c=n) ?_ λc z=>?_
    ·rw[hput];refine .dk (S:=λm x=>(m<xs.length/\T m x)\/(m=xs.length/\x=n)) (xs:=xs++[(k,.ref n)]) aA (.inl Pa) (λm x z=>?_) (λm m' x z z'=>?_) (by simp[hkeys]) λm x r h1 h2=>?_
     ·rcases z with⟨_,z⟩|⟨_,z⟩
      ·exact⟨.inl (hT m x z).1,(hT m x z).2⟩
      ·exact⟨.inr z,by rw[z];exact nna⟩
     ·rcases z with⟨q,z⟩|⟨q,z⟩<;>rcases z' with⟨q',z'⟩|⟨q',z'⟩
      ·exact dj m m' x z z'
      ·exact absurd z' (inP i x (hT m x z).1)
      ·exact absurd z (inP i x (hT m' x z').1)
      ·rw[q,q']
     ·by_cases hm:m<xs.length
      ·rw[ZaF hm] at h1;rw[ZaF (by omega)] at h2
       exact((hch m x r h1 h2).up (aR.refl _) (λc o z y=>by rw[aq (hT m c z).2];exact y) λc zs z=>by rw[aq (λy=>by subst y;rw[ha] at z;cases z)];exact z).mono λc z=>.inl ⟨hm,z⟩
      ·have em:m=xs.length:=by
        have:=cD h1;simp at this;omega
       subst em;rw[ZaG (Zaf _),Nat.sub_self] at h1;rw[lx,ZaG (Zaf _),Nat.sub_self] at h2;cases h1;cases h2;exact .lst (S:=λ_ _=>False) (by rw[aq nna];exact hn2) (.inr ⟨rfl,rfl⟩) (λ_ _ q=>q.elim) (λ_ _ _ q=>q.elim) rfl λj x p e1=>by simp at e1
    ·rcases z with z|z
     ·exact .inl z
     ·subst z;exact .inr ⟨u.fh.free hn,⟨_,hn2,λys q=>by cases q⟩,(d1.own i a Pa).2.2.1,RA.rb.zc hn,λj z=>inP j c z rfl,λj q f=>RA.apart hn j q f⟩
   have hn3:upd (upd H1 n (.lst [])) a (.dK (xs++[(k,.ref n)])) n=some (.lst []):=by rw[aq nna];exact hn2
   refine⟨tyL hn3,?_⟩;rcases dC hk1 with⟨z,e2,rfl⟩|⟨q,e2,hk2⟩
   ·exact he F1 _ σ _ _ _ R3 e2 (PX.up Pq u.ff)
   split at hk2
   case isFalse=>cases hk2
   rename_i hq;cases hk2;refine he F1 _ σ _ _ _ R3 e2 λw F2 H2 u2 rep=>?_;obtain⟨P3,d3⟩:=R3.dd;have ei:(ρ.set i (some (.dp (.dk (bj l k (.lst []))))))[i]?=some (some (.dp (.dk (bj l k (.lst []))))):=by rw[List.getElem?_set,Zal rfl,Zal il]
   have hvn:gR (xs++[(k,V.ref n)]) k=some (.ref n):=by
    unfold gR at hv ⊢;rw[Option.map_eq_none_iff] at hv;rw[List.find?_append,hv];simp
   obtain⟨ys2,hb2,yl,RR⟩:=uG (R3.up u2) (d3.up u2) ei e0 (u2.hh _ _ aA) hvn Ku rep hq.1;rw[Kc,Fv] at RR;exact⟨n,ys2,w,rfl,rfl,hb2,by rw[yl];exact hq.2,Pq F2 _ σ (u.ff.trans u2.ff) RR⟩
end
open PySem PySem.Spec PyProof PyProof.Rows
open PySem PySem.Spec PyProof PyProof.Rows
theorem KH{prog:Program}{w:World}{A:Around}{E:Value->Shared->Prop}{s:Shared}{t b:Addr}{vs ws:List Value}{Q:Value->Shared->Prop}(ht:IsTup s.heap t vs.toArray)(hb:IsTup s.heap b ws.toArray)(hv:vs=[])(h0:Q (.ref b) s):wpAny (model prog w) A (binaryOp .Add (.ref t) (.ref b)) Q E s:=by
 obtain⟨⟨cls,dd,data,sl⟩,ho,hc,n,hd⟩:=id ht;obtain⟨⟨cls2,dd2,data2,sl2⟩,ho2,hc2,n2,hd2⟩:=id hb;simp only at hc hd hc2 hd2;subst hc hd hc2 hd2;exact concat_meets ⟨_,ho,rfl⟩ ⟨_,ho2,rfl⟩ noFill_tuple_add seq_tuple_add PySem.F.slot_tuple_add PySem.F.entry_tuple_add (PySem.F.args_tuple_add_2 _ _)
  (tuple_addW0 t b vs.toArray ws.toArray n n2 dd dd2 sl sl2 (by simp[hv])) ⟨ho,ho2,h0⟩
def Qs(K:Frag):R2:=λx y H Q=>∃ a b ys,x=.ref a/\y=.ref b/\SqT K H a []/\SqT K H b ys/\Q (.ref b) H
def KJ(K:Frag):R2:=λx y H Q=>Qs K x y H Q\/Jd K x y H Q
section
variable{X:Cx}
theorem Ou:OpR X (binaryOp .Add) (Qs X.K):=by
 intro pins s σ H x y v u Q I rx ry h;obtain⟨a,b,ys,rfl,rfl,ha,hb,q⟩:=h;cases rx;cases ry;obtain⟨its,r1,p1,_⟩:=I.tuple ha;obtain⟨its2,r2,p2,_⟩:=I.tuple hb;exact KH p1 p2 (r1.sV.mpr rfl) ⟨.ref b,H,I,rfl,q⟩
theorem Ov:OpR X (binaryOp .Add) (KJ X.K):=OpR.or Ou Eh
variable{N:List Str}{scope:Scope}{cl:List (Str×Addr)}{C:Addr}{s2:Shared}{H2:Hp}{fp:List Addr}
theorem KN:OpR (X.comp N scope cl C s2 H2 fp) (binaryOp .Add) (KJ X.K):=Ov
end
def CV:PV->PV->Option (Res PV)
 |.tup l,.tup m=>if l.length+m.length<=sizeLine then some (.ok (.tup (l++m))) else none
 |_,_=>none
section
variable{K:Frag}{C:Cg}
theorem RG:R2M C (aF K) (aF K) (aF K) (KJ K) CV:=by
 intro F H x y a b res Q s ha hb e P;have inv:∃ l m,a=.tup l/\b=.tup m:=by
  clear P ha hb
  cases a<;>first|exact noS e|(cases b<;>first|exact noS e|exact⟨_,_,rfl,rfl⟩)
 obtain⟨l,m,rfl,rfl⟩:=inv;have e:(if l.length+m.length<=sizeLine then some (Res.ok (PV.tup (l++m))) else none)=some res:=e;split at e
 ·rename_i h;cases e;obtain⟨a1,xs,rfl,h1,r1⟩:=Rep.cg ha;obtain⟨a2,ys,rfl,h2,r2⟩:=Rep.cg hb;by_cases hx:xs=[]
  ·subst hx;have hl:l=[]:=by have:=r1.1;simpa using this.symm
   subst hl;exact .inl ⟨a1,a2,ys,rfl,rfl,s.tup h1,s.tup h2,P _ F H (Up.refl s) hb⟩
  refine .inr ⟨a1,a2,xs,ys,rfl,rfl,s.tup h1,s.tup h2,hx,by rw[r1.1,r2.1];exact h,λz=>?_,λ_ p hp=>?_⟩
  ·subst z;have hm:m=[]:=by have:=r2.1;simpa using this.symm
   subst hm;rw[ZaS] at P;exact P _ F H (Up.refl s) ha
  ·have un:=Up.new (o:=.tup (xs++ys)) s hp;exact P _ _ _ un (.tup aA (r1.append r2).1 ((r1.append r2).up un.ff).2)
 ·cases e
end
end L2.MP
namespace L2
open PySem PySem.Spec PyProof PyProof.Rows
def leT(a b:Str):Bool:=!decide (b.cps.toList<a.cps.toList)
theorem kO{a b:Str}:leT a b=true↔a.cps.toList<=b.cps.toList:=by
 unfold leT;rw[Bool.not_eq_true',decide_eq_false_iff_not,List.not_lt]
theorem wJ(a b c:Str)(h1:leT a b=true)(h2:leT b c=true):leT a c=true:=kO.mpr (List.le_trans (kO.mp h1) (kO.mp h2))
theorem Hz(a b:Str):(leT a b||leT b a)=true:=by
 rw[Bool.or_eq_true,kO,kO];exact List.le_total _ _
theorem KQ{a b:Str}(h1:leT a b=true)(h2:leT b a=true):a=b:=by
 have e:=List.le_antisymm (kO.mp h1) (kO.mp h2);cases a;cases b;simp only[Str.mk.injEq];exact Array.toList_inj.mp e
def sS(l:List Str):List Str:=l.mergeSort leT
theorem nU(l:List Str):(sS l).Perm l:=List.mergeSort_perm _ _
theorem Aa(l:List Str):(sS l).Pairwise λa b=>leT a b=true:=List.pairwise_mergeSort wJ Hz l
theorem wK:∀ (p:Str) (l:List Str),risingS p l=true->(p::l).Pairwise λa b=>leT a b=true
 |p,[],_=>List.pairwise_singleton _ _
 |p,x::r,h=>by
  have h:(!ltCps x.cps.toList p.cps.toList&&risingS x r)=true:=h;rw[Bool.and_eq_true,ltCps_eq] at h;have ih:=wK x r h.2;refine Zb0.mpr ⟨λy hy=>?_,ih⟩;rcases Zay.mp hy with rfl|hy
  ·exact h.1
  ·exact wJ _ _ _ h.1 ((Zb0.mp ih).1 y hy)
theorem CW:∀ {l:List Str},sortedS l=true->l.Pairwise λa b=>leT a b=true
 |[],_=>.nil
 |x::r,h=>wK x r h
theorem ym{l m:List Str}(p:l.Perm m)(h:sortedS l=true):l=sS m:=
 List.Perm.eq_of_pairwise (le:=λa b=>leT a b=true) (λ_ _ _ _ h1 h2=>KQ h1 h2) (CW h) (Aa m) (p.trans (nU m).symm)
theorem qg:∀ {vs:List Value}{ss:List Str},StrsAre vs ss->Vals (ss.map V.str) vs
 |_,_,.nil=>.nil
 |_,_,.cons y t h=>.cons ⟨t,rfl⟩ (qg h)
theorem rQ:∀ {vs:List Value}{ss:List Str},StrsAre vs ss->vs.length=ss.length
 |_,_,.nil=>rfl
 |_,_,.cons y t h=>by simp[rQ h]
section
variable{prog:Program}{w:World}{A:Around}{E:Value->Shared->Prop}{s:Shared}
theorem uI{a:Addr}{vs:List Value}{ss:List Str}{n:Nat}{P:PySem.Fin->Shared->Prop}(ho:s.heap.get? a=some (seqObj "list" vs.toArray n))(hS:StrsAre vs ss)(h64:vs.length<64)
  (h:∀ (out:Array Value) (ss':List Str),StrsAre out.toList ss'->ss'.Perm ss->sortedS ss'=true->P (.done (.ret .none)) { s with heap:=sortedHeap s.heap a vs out }):wpAny (model prog w) A (Builtin.«list.sort» ⟨[.ref a],[]⟩) P E s:=by
 refine list_sort_treeK strKind_oneLt ho hS.keysOf (λv₁ v₂ rest e=>keyKind_strs (by rw[<-e];exact hS)) h64 λst' hp hs=>?_
 obtain⟨ss',h1,h2,h3⟩:=sorted_out_str hS hp hs;exact h _ ss' h1 h2 h3
end
def ddT:List Str->List Str
 |[]=>[]
 |x::l=>if x∈l then ddT l else x::ddT l
theorem nW:∀ {l:List Str}{x:Str},x∈ddT l↔x∈l
 |[],x=>Iff.rfl
 |y::l,x=>by
  unfold ddT;split
  ·rename_i h;rw[nW,Zay];exact⟨.inr,λq=>q.elim (λe=>e▸h) id⟩
  ·rw[Zay,Zay,nW]
theorem nY:∀ l:List Str,(ddT l).Nodup
 |[]=>List.nodup_nil
 |y::l=>by
  unfold ddT;split
  ·exact nY l
  ·rename_i h;exact Zbg.mpr ⟨λq=>h (nW.mp q),nY l⟩
theorem rR:∀ {l m:List Str},l.Nodup->m.Nodup->(∀ x,x∈l↔x∈m)->l.Perm m
 |[],m,_,_,h=>by
  have:m=[]:=List.eq_nil_iff_forall_not_mem.mpr λx q=>nomatch (h x).mpr q;rw[this]
 |a::l,m,hl,hm,h=>by
  obtain⟨s,t,rfl⟩:=List.append_of_mem ((h a).mp List.mem_cons_self);have hm':=(List.perm_middle (a:=a) (l₁:=s) (l₂:=t)).nodup hm;obtain⟨n1,n2⟩:=Zbg.mp hm';obtain⟨n3,n4⟩:=Zbg.mp hl;refine((rR n4 n2 λx=>?_).cons a).trans List.perm_middle.symm;have q:=h x;rw[Zay,(List.perm_middle (a:=a) (l₁:=s) (l₂:=t)).mem_iff,Zay] at q;constructor
  ·intro hx;exact(q.mp (.inr hx)).resolve_left λe=>n3 (e▸hx)
  ·intro hx;exact(q.mpr (.inr hx)).resolve_left λe=>n1 (e▸hx)
theorem FJ:∀ {vs:List Value},(∀ v∈vs,∃ k t,v=Value.str k t)->vs.Pairwise (λu v=>∀ k t t',u=.str k t->v=.str k t'->False) ->
  ∃ ms:List Str,StrsAre vs ms/\ms.Nodup/\∀ k,k∈ms↔∃ t,Value.str k t∈vs
 |[],_,_=>⟨[],.nil,List.nodup_nil,λk=>⟨λq=>absurd q ZbF,λq=>absurd q.choose_spec ZbF⟩⟩
 |v::vs,h,p=>by
  obtain⟨k,t,rfl⟩:=h v List.mem_cons_self;obtain⟨p1,p2⟩:=Zb0.mp p;obtain⟨ms,h1,h2,h3⟩:=FJ (λv q=>h v (List.mem_cons_of_mem _ q)) p2;refine⟨k::ms,.cons k t h1,Zbg.mpr ⟨λq=>?_,h2⟩,λx=>?_⟩
  ·obtain⟨t',q⟩:=(h3 k).mp q;exact p1 _ q k t t' rfl rfl
  ·rw[Zay,h3];constructor
   ·rintro(rfl|⟨t',q⟩)
    ·exact⟨t,List.mem_cons_self⟩
    ·exact⟨t',List.mem_cons_of_mem _ q⟩
   ·rintro⟨t',q⟩;rcases Zay.mp q with e|q
    ·cases e;exact .inl rfl
    ·exact .inr ⟨t',q⟩
theorem kW(k:Str)(t:Tok):Value.isStrOf k (.str k t)=true:=by simp[Value.isStrOf]
theorem KR{P:Program}{w:World}{S:Str->Bool}{es:Array (Int×Value)}(x:SE.Els (PySem.strKind P w) S es){vs:List Value}(p:vs.Perm (es.toList.map (·.2))):∃ ms:List Str,StrsAre vs ms/\ms.Nodup/\∀ k,k∈ms↔S k=true:=by
 have h0:∀ v∈vs,∃ k t,v=Value.str k t:=λv q=>by
  obtain⟨e,he,rfl⟩:=ZaQ.mp (p.mem_iff.mp q);obtain⟨⟨k,hk,_⟩,_⟩:=x.el e he;obtain⟨t,ht⟩:=Value.isStrOf_shape hk;exact⟨k,t,ht⟩
 have h1:(es.toList.map (·.2)).Pairwise (λu v=>∀ k t t',u=.str k t->v=.str k t'->False):=by
  rw[List.pairwise_map];refine x.ap.imp λ{e f} q k t t' e1 e2=>q k ?_ ?_
  ·rw[e1];exact kW k t
  ·rw[e2];exact kW k t'
 obtain⟨ms,a,b,c⟩:=FJ h0 ((p.symm.pairwise_iff λ{u v} q k t t' e1 e2=>q k t' t e2 e1).mp h1);refine⟨ms,a,b,λk=>?_⟩;rw[c,x.mem];constructor
 ·rintro⟨t,q⟩;obtain⟨e,he,e2⟩:=ZaQ.mp (p.mem_iff.mp q);exact⟨e,he,by rw[e2];exact kW k t⟩
 ·rintro⟨e,he,q⟩;obtain⟨t,ht⟩:=Value.isStrOf_shape q;exact⟨t,p.mem_iff.mpr (ZaQ.mpr ⟨e,he,ht⟩)⟩
def noStr:Str:=⟨#[]⟩
def KY(P:Program)(w:World)(a:Addr)(ns:List Str):Heap->Prop:=λh=>SE.lK (PySem.strKind P w) h a (!SE.byT w) (SE.seen (λi=>ns.getD i noStr) ns.length) ns.length
def FN(K:Frag)(P:Program)(w:World):List V->Hp->VK->Prop:=λxs H Q=>∃ p ns,xs=[.ref p]/\SqL K H p (ns.map V.str)/\ns.length<=1000/\∀ l,H l=none->Q (.ref l) (upd H l (.ext (KY P w l ns)))
def tL(P:Program)(w:World):List V->Hp->VK->Prop:=λxs H Q=>∃ p ns,xs=[.ref p]/\H p=some (.ext (KY P w p ns))/\(ddT ns).length<64/\∀ l,H l=none->Q (.ref l) (upd H l (.lst ((sS (ddT ns)).map V.str)))
theorem HB{ns:List Str}{k:Str}:SE.seen (λi=>ns.getD i noStr) ns.length k=true↔k∈ns:=by
 unfold SE.seen;rw[List.any_eq_true];constructor
 ·rintro⟨i,hi,q⟩;have hi:=ZaR.mp hi;rw[Zbb] at q;subst q;show ns.getD i noStr∈ns
  rw[Zag,Zaa hi];exact Zbq hi
 ·intro q;obtain⟨i,hi,rfl⟩:=List.getElem_of_mem q;refine⟨i,ZaR.mpr hi,?_⟩;rw[Zbb];show ns[i]=ns.getD i noStr
  rw[Zag,Zaa hi];rfl
theorem FP:∀ {vs:List Value}{ns:List Str},StrsAre vs ns->∀ (i:Nat) v,vs[i]?=some v->∃ t,v=.str (ns.getD i noStr) t
 |_,_,.nil,i,v,e=>by simp at e
 |_,_,.cons y t h,0,v,e=>by cases e;exact⟨t,rfl⟩
 |_,_,.cons y t h,i+1,v,e=>by obtain⟨u,r⟩:=FP h i v (by simpa using e);exact⟨u,by simpa using r⟩
section
variable{X:Cx}
theorem HD(hc:X.calm=true):fL X (.type "set") (FN X.K X.prog X.w):=by
 intro pins s σ H xs us Q I rv h;obtain⟨p,ns,rfl,hq,h64,q⟩:=h;obtain⟨u,rfl,ru⟩:=rv.one;cases ru;obtain⟨its,r,pl,hz⟩:=I.list hq;have hi:=Em r;have hl:its.length=ns.length:=by have:=r.length;simpa using this.symm
 refine SE.RC (knd:=PySem.strKind X.prog X.w) (key:=λi=>ns.getD i noStr) (I.ok.hd hc) pl.isList (λi v e=>?_) (by rw[List.size_toArray,hl];exact Nat.lt_of_le_of_lt (Nat.succ_le_succ h64) (by decide)) λh' tk G k=>?_
 ·obtain⟨t,rfl⟩:=FP hi i v (by rw[<-ZaK] at e;exact e)
  exact⟨kW _ t,rfl⟩
 ·have zz:its.toArray.size=ns.length:=by rw[List.size_toArray,hl]
  rw[zz] at G;have fresh:H s.heap.objs.size=none:=I.hok.fresh (Zaf _);have ex:∃ o,h'.get? s.heap.objs.size=some o:=by obtain⟨o,_,_,_,ho,_⟩:=G;exact⟨o,ho⟩
  exact⟨.ref s.heap.objs.size,upd H s.heap.objs.size (.ext (KY X.prog X.w s.heap.objs.size ns)),I.laid (t':=tk) k (Zaf _) ⟨G,ex,λh1 h2 g e=>SE.lK.at g e⟩,rfl,q _ fresh⟩
theorem vG(hc:X.calm=true):fL X (.builtin "sorted") (tL X.prog X.w):=by
 intro pins s σ H xs us Q I rv h;obtain⟨p,ns,rfl,hp,h64,q⟩:=h;obtain⟨u,rfl,ru⟩:=rv.one;cases ru;have G:KY X.prog X.w p ns s.heap:=(I.hok p _ hp).1;refine Calls.call_function_entry kind_sorted plain_sorted entry_sorted (args_sorted1 _) ?_;unfold Builtin.«sorted»;refine Zab (m:=checkCount "sorted" 1 1 _) (Zaj ?_);refine Zab (SE.CT (I.ok.hd hc) G λh' d tk vs es hold el hn pm=>?_);obtain⟨ms,m1,m2,m3⟩:=KR el pm;have pp:ms.Perm (ddT ns):=rR m2 (nY ns) λx=>by rw[m3,HB,nW]
 have hle:vs.length<64:=by rw[rQ m1,pp.length_eq];exact h64
 refine Zab (wpAny_newList ?_ (ZaX (ZaJ hle) (by decide)))
 have hoL:(h'.push (seqObj "list" vs.toArray 0)).get? h'.objs.size=some (seqObj "list" vs.toArray 0):=Zam _ rfl;show wpAny _ _ _ _ _ { s with heap:=h'.push (seqObj "list" vs.toArray 0),drawn:=d,toks:=tk }
 refine Zab (wpAny_holding (wpAny_call_entry slot_list_sort ⟨_,hoL,rfl⟩ entry_list_sort (uI hoL m1 hle λout ns' a1 a2 a3=>⟨_,rfl,?_⟩) (args_list_sort _)));refine Zaj ⟨_,rfl,?_⟩;obtain⟨e',he⟩:=sortedHeap_at (out:=out) hoL;have en:ns'=sS (ddT ns):=ym (a2.trans pp) a3;subst en;have I1:Inv X pins σ H { s with heap:=h',drawn:=d,toks:=tk }:=(I.kept (t':=tk) hold).drawn;have fresh:H h'.objs.size=none:=I1.hok.fresh (Zaf _);refine⟨.ref h'.objs.size,upd H h'.objs.size (.lst ((sS (ddT ns)).map V.str)),I1.laid (t':=tk) (λb o=>xX) (Zaf _) ⟨?_,out.toList,e',qg a1,by rw[Array.toArray_toList];exact he⟩,rfl,q _ fresh⟩
 rw[List.length_map,(nU _).length_eq];exact ZaX (ZaJ h64) (by decide:64<=sizeLine)
end
namespace MP
theorem bG.FQ{K:Frag}{F:Hp}:∀ ns:List Str,bG K F (ns.map V.str) (ns.map PV.str)
 |[]=>.nil
 |n::ns=>(bG.FQ ns).cons .str
def jf(l:List PV):Option (Res PV):=match lY l with
 |some ns=>if ns.length<=1000/\(ddT ns).length<64 then some (.ok (.lst ((sS (ddT ns)).map .str))) else none
 |none=>none
section
variable{K:Frag}{C:Cg}{P:Program}{w:World}{ta:TE}{f:Fn (List PV)}
theorem KZ:R1O K C (aV K) (λxs H Q=>FN K P w xs H λx H2=>tL P w [x] H2 Q) jf:=by
 intro F H x a res Q s ha e hP;unfold jf at e;cases h:lY a with
 |none=>rw[h] at e;cases e
 |some ns=>
  rw[h] at e;have e:(if ns.length<=1000/\(ddT ns).length<64 then some (Res.ok (PV.lst ((sS (ddT ns)).map .str))) else none)=some res:=e;split at e
  ·rename_i h64;cases e;obtain⟨b,xs,rfl,h1,r1⟩:=ha;have ex:xs=ns.map V.str:=wg h r1;subst ex;refine⟨b,ns,rfl,h1,h64.1,λl hl=>⟨l,ns,rfl,aA,h64.2,λl2 hl2=>?_⟩⟩;have u1:Up F H F (upd H l (.ext (KY P w l ns))):=Up.vq s hl;have ne:l2≠l:=λz=>by rw[z,aA] at hl2;cases hl2
   have hl2':H l2=none:=by rw[aq ne] at hl2;exact hl2
   exact hP l2 F _ (u1.trans (Up.vq u1.fh hl2)) hl2' (s.free hl2') ⟨_,aA,bG.FQ _⟩
  ·cases e
theorem HF(ha:MJ K C (aV K) ta f):MO K C (tCB (tL P w) (jk (tCB (FN K P w) (jk ta pK)) pK)) (m1 jf f):=oX (rr:=λxs H Q=>FN K P w xs H λx H2=>tL P w [x] H2 Q) KZ ha
end
end MP
def K1(tl:TE):TE:=λσ H Q=>tl σ H λx H1=>∃ a kvs,x=.ref a/\H1 a=some (.dK kvs)/\∀ raw,Q x (upd H1 a (.frz raw (.dK kvs)))
theorem K3{X:Cx}{o:Expr}{tl:TE}(hl:PE X o tl):PE X o (K1 tl):=by
 intro pins s σ H Q I h;refine thn (hl pins s σ H _ I h) ?_;rintro u s1 ⟨x,H1,I1,rx,q1⟩;obtain⟨a,kvs,rfl,ha,q⟩:=q1;obtain⟨raw,_,I2⟩:=I1.hold ha trivial;exact⟨.ref a,_,I2,rx,q raw⟩
namespace MP
section
variable{K:Frag}{C:Cg}{te:TE}{F F2 H H1:Hp}{f:Fn PV}
theorem CZ{a:Addr}{xs:List (Key×V)}{l:List (Key×PV)}(sF:aR F H)(u:Up F H F2 H1)(ha:H a=none)(fa:F2 a=some (.dK xs))(hl:xs.map (·.1)=l.map (·.1))(hr:∀ (j:Nat) x p,xs[j]?=some x->l[j]?=some p->Rep K F2 x.2 p.2)(raw:Obj) :
  Up F H (upd F2 a (.frz raw (.dK xs))) (upd H1 a (.frz raw (.dK xs)))/\ItR K (Itp a raw xs) (upd F2 a (.frz raw (.dK xs))) (fV l):=by
 have nF:∀ {b o},F b=some o->b≠a:=λ{b o} e z=>by subst z;rw[sF b o e] at ha;cases ha
 have w:Sw F2 (upd F2 a (.frz raw (.dK xs))) a (.dK xs):=⟨λb hb=>aq hb,.inl fa,.inr ⟨raw,aA⟩,trivial⟩;have len:xs.length=l.length:=by have:=ZbI List.length hl;simpa using this
 refine⟨⟨λb o e=>?_,λb o e=>?_,λb o e=>?_,λb o e=>?_⟩,⟨λF' H' s s'=>?_,λj F' H' hj s s'=>?_,λj F' H' x H'' hj s s' y=>?_⟩⟩
 ·rw[aq (nF e)];exact u.ff b o e
 ·rw[aq (λz=>by subst z;rw[ha] at e;cases e)];exact u.hh b o e
 ·by_cases hb:b=a
  ·subst hb;exact .inr (.inl ha)
  ·rw[aq hb] at e;exact u.fr b o e
 ·by_cases hb:b=a
  ·subst hb;rw[aA] at e ⊢;exact e
  ·rw[aq hb] at e ⊢;exact u.fh b o e
 ·exact⟨s' _ _ (s _ _ aA),by unfold fV;rw[List.length_map];exact len.symm⟩
 ·refine⟨s' _ _ (s _ _ aA),?_⟩;unfold fV at hj;rw[List.length_map] at hj;omega
 ·obtain⟨p,kv,hp,hkv,rfl,rfl⟩:=y;have hl2:(l.map (·.1))[j]?=some kv.1:=by rw[<-hl,Zae,hkv];rfl
  rw[Zae] at hl2;cases q:l[j]? with
  |none=>rw[q] at hl2;cases hl2
  |some z=>
   rw[q] at hl2;have ew:z.1=kv.1:=Zah hl2;have un:=Up.new (o:=.tup [kV kv.1,kv.2]) s' hp;refine⟨_,.tup [Cp z.1,z.2],un,?_,.tup aA rfl λn x p' hx hp'=>?_⟩
   ·unfold fV;rw[Zae,q];rfl
   ·match n with
    |0=>simp at hx hp';subst hx hp';rw[ew];exact xW
    |1=>simp at hx hp';subst hx hp';exact((hr j _ _ hkv q).sw w).up (s.trans un.ff)
    |n+2=>simp at hx
theorem HJ(h:MD K C te f):MI K C (J9 (K1 te)) (m1 uv f):=by
 intro F H σ ρ R' r R e P;rcases dU e with⟨z,e1,rfl⟩|⟨p,e1,hk⟩
 ·exact h F H σ ρ _ _ R e1 P
 match p,hk with
 |.dk l,hk=>
  cases hk;refine h F H σ ρ _ _ R e1 λv F1 H1 S u d n=>?_;have rep:=zF d u.fh;have up:=Nu u n;obtain⟨T,a,xs,rfl,ha,Sa,_⟩:=d.yc;cases rep with
  |@dk _ ys _ hd hl hr=>
   have fa:xT F1 H1 S a=some (.dK xs):=by rw[kI (.inl Sa)];exact ha
   have ey:ys=xs:=by
    rcases hd with hd|⟨o,hd⟩<;>rw[fa] at hd<;>cases hd;rfl
   subst ey;refine⟨a,ys,rfl,ha,λraw=>?_⟩;obtain⟨u3,it⟩:=CZ R.rb.sub up (n a Sa).1 fa hl hr raw;exact⟨a,raw,ys,rfl,aA,P _ _ _ u3 it⟩
end
end MP
end L2
namespace L2.MP
open PySem PySem.Spec PyProof.Rows
open PySem PySem.Spec PyProof.Rows PySem.Calls Builtin Builtin.ObjectAttr
open PySem PySem.Spec PyProof.Rows PySem.Calls Builtin Builtin.ObjectAttr
noncomputable abbrev RJ:List Value:=[.type "ValueError",.type "Exception",.type "BaseException",.type "object"]
def RK:List Value->Bool
 |.ref _::r=>RK r
 |l=>l==RJ
def XN(e C:Addr)(d:Option Addr):HO:=.ext λh=>∃ vs:Array Value,h.get? e=some { cls:=.ref C,dict:=d,data:=.fields vs }/\1<vs.size/\vs[1]?=some .none
def XD(dx:Addr)(fs:List (Str×V)):HO:=.ext λh=>fs.length<=1000/\∃ mA,h.Ns1 dx mA/\(∀ f,qQ (fs.lookup f) (mA f))/\PySem.Within mA (fs.map (·.1))
noncomputable abbrev THs:=Value->Option Addr->TS
def XRS(K:Frag):Hp->Value->Option Addr->PV->Prop:=λF ev d z=>∃ c l Ca dx xs,z=.exc c l/\ev=.ref Ca/\d=some dx/\XNm K Ca c/\F dx=some (.xd xs)/\xs.map (·.1)=l.map (·.1)/\∀ (j:Nat) x p,xs[j]?=some x->l[j]?=some p->Rep K F x.2 p.2
def spI(Ca:Addr)(fs:List Str):Sp:=λvs H Q _=>∃ e args,vs=.ref e::args/\args.length=fs.length/\H e=some (XN e Ca none) /\
 ∀ dx H',H dx=none->H' e=some (XN e Ca (some dx))->H' dx=some (XD dx (fs.zip args))->(∀ b,b≠e->b≠dx->H' b=H b)->Q .non H'
noncomputable abbrev CE(K:Frag)(E:XK)(io:Addr->Prop)(H0 F0:Hp):Cg:=⟨⟨io,True,H0,F0,E⟩,XRS K⟩
open PySem PySem.Spec PyProof.Rows PySem.Calls PySem.W Builtin Builtin.ObjectAttr
open PySem PySem.Spec PyProof PyProof.Rows
end L2.MP
namespace L2
open PySem PySem.Spec PySem.W PyProof PyProof.Rows
section
variable{α:Type}[Inhabited α]{lt:α->α->Bool}{ps:List α}
def rkG(lt:α->α->Bool)(ps:List α)(i:Nat):Nat:=((List.range ps.length).filter λj=>lt (ps.getD j default) (ps.getD i default)).length
structure GOk(lt:α->α->Bool)(ps:List α):Prop where
 nd:ps.Nodup
 irr:∀ p,lt p p=false
 tr:∀ p q t,lt p q=true->lt q t=true->lt p t=true
 tot:∀ p∈ps,∀ q∈ps,p≠q->lt p q=true\/lt q p=true
theorem rJ{i:Nat}(h:i<ps.length):ps.getD i default∈ps:=ZaE (i:=i) (by rw[Zag,Zaa h];rfl)
theorem GOk.inj(o:GOk lt ps){i j:Nat}(hi:i<ps.length)(hj:j<ps.length)(e:ps.getD i default=ps.getD j default):i=j:=by
 have g:∀ i,i<ps.length->ps[i]?=some (ps.getD i default):=λi h=>by rw[Zag,Zaa h];rfl
 exact(List.getElem?_inj hi o.nd).mp (by rw[g i hi,g j hj,e])
theorem GOk.rlt(o:GOk lt ps){i j:Nat}(hi:i<ps.length)(h:lt (ps.getD i default) (ps.getD j default)=true):rkG lt ps i<rkG lt ps j:=by
 unfold rkG;have sub:((List.range ps.length).filter λk=>lt (ps.getD k default) (ps.getD i default)).Sublist ((List.range ps.length).filter λk=>lt (ps.getD k default) (ps.getD j default)):=by
  have e:((List.range ps.length).filter λk=>lt (ps.getD k default) (ps.getD i default))=((List.range ps.length).filter λk=>lt (ps.getD k default) (ps.getD j default)).filter λk=>lt (ps.getD k default) (ps.getD i default):=by
   rw[List.filter_filter];refine List.filter_congr λk _=>?_;cases q:lt (ps.getD k default) (ps.getD i default) with
   |false=>rfl
   |true=>rw[o.tr _ _ _ q h];rfl
  rw[e];exact List.filter_sublist
 refine Nat.lt_of_le_of_ne sub.length_le λe=>?_;have e:=sub.eq_of_length e;have:i∈(List.range ps.length).filter λk=>lt (ps.getD k default) (ps.getD j default):=ZbA.mpr ⟨ZaR.mpr hi,h⟩;rw[<-e] at this;have:=(ZbA.mp this).2;rw[o.irr] at this;cases this
theorem GOk.Ub(o:GOk lt ps){i j:Nat}(hi:i<ps.length)(hj:j<ps.length):lt (ps.getD i default) (ps.getD j default)=decide (rkG lt ps i<rkG lt ps j):=by
 cases q:lt (ps.getD i default) (ps.getD j default) with
 |true=>exact(ZaD (o.rlt hi q)).symm
 |false=>
  refine(ZaH λz=>?_).symm;by_cases e:ps.getD i default=ps.getD j default
  ·rw[o.inj hi hj e] at z;omega
  ·rcases o.tot _ (rJ hi) _ (rJ hj) e with w|w
   ·rw[q] at w;cases w
   ·have:=o.rlt hj w;omega
theorem GOk.Uc(o:GOk lt ps){i j:Nat}(hi:i<ps.length)(hj:j<ps.length)(e:rkG lt ps i=rkG lt ps j):i=j:=by
 refine o.inj hi hj (Classical.byContradiction λne=>?_);rcases o.tot _ (rJ hi) _ (rJ hj) ne with w|w
 ·have:=o.rlt hi w;omega
 ·have:=o.rlt hj w;omega
def jJ(lt:α->α->Bool)(ps:List α):List Nat:=(List.range ps.length).mergeSort λi j=>decide (rkG lt ps i<=rkG lt ps j)
theorem jK(lt:α->α->Bool)(ps:List α):(jJ lt ps).Perm (List.range ps.length):=List.mergeSort_perm _ _
theorem qi:∀ i∈jJ lt ps,i<ps.length:=λi hi=>ZaR.mp ((jK lt ps).mem_iff.mp hi)
theorem Ab(lt:α->α->Bool)(ps:List α):(jJ lt ps).length=ps.length:=by rw[(jK lt ps).length_eq,List.length_range]
theorem GOk.ord(o:GOk lt ps):(jJ lt ps).Pairwise λi j=>rkG lt ps i<rkG lt ps j:=by
 have h:=List.pairwise_mergeSort (le:=λi j=>decide (rkG lt ps i<=rkG lt ps j)) (λa b c h1 h2=>by simp at h1 h2 ⊢;omega) (λa b=>by simp;omega) (List.range ps.length)
 have nd:(jJ lt ps).Nodup:=(jK lt ps).nodup_iff.mpr List.nodup_range;refine(h.and nd).imp_of_mem λ{i j} hi hj q=>?_;have h1:rkG lt ps i<=rkG lt ps j:=by simpa using q.1
 exact Nat.lt_of_le_of_ne h1 λe=>q.2 (o.Uc (qi i hi) (qi j hj) e)
theorem GOk.Ow(o:GOk lt ps){l:List Nat}(p:l.Perm (List.range ps.length))(s:l.Pairwise λi j=>rkG lt ps i<rkG lt ps j):l=jJ lt ps:=
 List.Perm.eq_of_pairwise (le:=λi j=>rkG lt ps i<rkG lt ps j) (λi j _ _ h1 h2=>by omega) s o.ord (p.trans (jK lt ps).symm)
end
section
variable{prog:Program}{w:World}{A:Around}{E:Value->Shared->Prop}{s:Shared}{α:Type}[Inhabited α]{lt:α->α->Bool}{ps:List α}
theorem HN{ks vs:List Value}{κ:SortKind}(ok:GOk lt ps)(hk:ks.length=ps.length)(hl:vs.length=ps.length)(kinj:∀ i j,i<ps.length->j<ps.length->ks.getD i .none=ks.getD j .none->i=j)
  (hc:∀ i j,i<ps.length->j<ps.length->∀ (E:Value->Shared->Prop) (Q:Bool->Shared->Prop),Q (lt (ps.getD i default) (ps.getD j default)) s->wpAny (model prog w) A (keyLt' κ (ks.getD i .none) (ks.getD j .none)) Q E s) :
  wpAny (model prog w) A (sortRuns'.run (SortSt.mk' κ (ks.toArray.zip vs.toArray) #[] 7 none)) (λr s'=>s'=s/\failedOf r.2=none/\(arrOf r.2).map (·.2)=List.toArray ((jJ lt ps).map λi=>vs.getD i .none)/\(arrOf r.2).size=vs.length) E s:=by
 have gk:∀ i,i<ps.length->ks[i]?=some (ks.getD i .none):=λi h=>by rw[Zag,Zaa (by omega)];rfl
 have gv:∀ i,i<ps.length->vs[i]?=some (vs.getD i .none):=λi h=>by rw[Zag,Zaa (by omega)];rfl
 let ix:Keyed->Nat:=λx=>@dite _ (∃ i,i<ps.length/\ks.getD i .none=x.1) (Classical.propDecidable _) (λh=>Classical.choose h) λ_=>0
 have ixe:∀ i,i<ps.length->ix (ks.getD i .none,vs.getD i .none)=i:=λi hi=>by
  have hx:∃ j,j<ps.length/\ks.getD j .none=(ks.getD i .none,vs.getD i .none).1:=⟨i,hi,rfl⟩;show@dite _ _ (Classical.propDecidable _) _ _=i
  rw[@dif_pos _ (Classical.propDecidable _) hx];have:=Classical.choose_spec hx;exact kinj _ i this.1 hi this.2
 have zl:(ks.toArray.zip vs.toArray).toList=(List.range ps.length).map λi=>(ks.getD i .none,vs.getD i .none):=by
  rw[Array.toList_zip];apply Zbj
  intro i;rw[Zae];by_cases h:i<ps.length
  ·rw[ZaI h,show(ks.toArray.toList.zip vs.toArray.toList)[i]?=some (ks.getD i .none,vs.getD i .none) from List.getElem?_zip_eq_some.mpr ⟨by simpa using gk i h,by simpa using gv i h⟩];rfl
  ·rw[Zat (by simp;omega),Zat (by simp;omega)];rfl
 have mz:∀ x∈(ks.toArray.zip vs.toArray).toList,∃ i,i<ps.length/\x=(ks.getD i .none,vs.getD i .none):=λx hx=>by
  rw[zl] at hx;obtain⟨i,hi,e⟩:=ZaQ.mp hx;exact⟨i,ZaR.mp hi,e.symm⟩
 have hc:TS.Cmp prog w A s κ (λx=>∃ i,i<ps.length/\x=(ks.getD i .none,vs.getD i .none)) (λx=>rkG lt ps (ix x)):=by
  rintro x y ⟨i,hi,rfl⟩ ⟨j,hj,rfl⟩ E Q q;have q:Q (decide (rkG lt ps (ix (ks.getD i .none,vs.getD i .none))<rkG lt ps (ix (ks.getD j .none,vs.getD j .none)))) s:=q;rw[ixe i hi,ixe j hj,<-ok.Ub (by omega) (by omega)] at q
  exact hc i j hi hj E Q q
 have un:TS.Unl (λx=>rkG lt ps (ix x)) (ks.toArray.zip vs.toArray).toList:=by
  rw[zl];unfold TS.Unl;rw[List.pairwise_map];refine List.nodup_range.imp_of_mem λ{i j} hi hj ne=>?_;show rkG lt ps (ix (ks.getD i .none,vs.getD i .none))≠rkG lt ps (ix (ks.getD j .none,vs.getD j .none))
  rw[ixe i (ZaR.mp hi),ixe j (ZaR.mp hj)];exact λe=>ne (ok.Uc (ZaR.mp hi) (ZaR.mp hj) e)
 have run:=TS.wpS_sortRuns (E:=E) (st:=SortSt.mk' κ (ks.toArray.zip vs.toArray) #[] 7 none) hc rfl rfl rfl mz un (Q:=λ_ st'=>failedOf st'=none/\(arrOf st').map (·.2)=List.toArray ((jJ lt ps).map λi=>vs.getD i .none)/\(arrOf st').size=vs.length) λst' pm ff ss=>?_
 ·exact run
 ·have pl:=Zbm.mp pm;have pl:(arrOf st').toList.Perm (ks.toArray.zip vs.toArray).toList:=pl;have back:(arrOf st').toList=((arrOf st').toList.map ix).map λi=>(ks.getD i .none,vs.getD i .none):=by
   rw[ZbH];refine((Zbf λx hx=>?_).trans (List.map_id _)).symm;obtain⟨i,hi,rfl⟩:=mz x (pl.mem_iff.mp hx);show(ks.getD (ix _) .none,vs.getD (ix _) .none)=_
   rw[ixe i hi];rfl
  have ip:((arrOf st').toList.map ix).Perm (List.range ps.length):=by
   refine(pl.map ix).trans ?_;rw[zl,ZbH];exact List.Perm.of_eq ((Zbf λi hi=>ixe i (ZaR.mp hi)).trans (List.map_id _))
  have is:((arrOf st').toList.map ix).Pairwise λi j=>rkG lt ps i<rkG lt ps j:=by
   rw[List.pairwise_map];exact ss
  have eo:=ok.Ow ip is;refine⟨ff,?_,?_⟩
  ·apply Array.toList_inj.mp
   rw[Array.toList_map,back,ZbH,<-eo];rfl
  ·rw[<-ZaC,pl.length_eq,zl,List.length_map,List.length_range,hl]
end
noncomputable abbrev Tk:=Int×List Int
def gW(p q:Tk):Bool:=if p.1=q.1 then ltI p.2 q.2 else decide (p.1<q.1)
theorem K4(p:Tk):gW p p=false:=by unfold gW;rw[Zal rfl];exact ph _
theorem Ox(p q t:Tk)(h1:gW p q=true)(h2:gW q t=true):gW p t=true:=by
 unfold gW at h1 h2 ⊢;by_cases e1:p.1=q.1
 ·rw[Zal e1] at h1;by_cases e2:q.1=t.1
  ·rw[Zal e2] at h2;rw[Zal (e1.trans e2)];exact wC h1 h2
  ·rw[Zak e2] at h2;rw[Zak (λz=>e2 (e1.symm.trans z)),e1];exact h2
 ·rw[Zak e1] at h1;have h1:=Zbc h1;by_cases e2:q.1=t.1
  ·rw[Zak (λz=>e1 (z.trans e2.symm)),<-e2];exact ZaD h1
  ·rw[Zak e2] at h2;have h2:=Zbc h2;rw[Zak (by omega)]
   exact ZaD (by omega)
theorem K5{p q:Tk}(hl:p.1=q.1->p.2.length=q.2.length)(h:p≠q):gW p q=true\/gW q p=true:=by
 unfold gW;by_cases e:p.1=q.1
 ·rw[Zal e,Zal e.symm];exact wD (hl e) λz=>h (Prod.ext e z)
 ·rw[Zak e,Zak (Zbs e)];rcases Int.lt_or_gt_of_ne e with q|q
  ·exact .inl (ZaD q)
  ·exact .inr (ZaD q)
theorem Ud{ps:List Tk}(nd:ps.Nodup)(hl:∀ p∈ps,∀ q∈ps,p.1=q.1->p.2.length=q.2.length):GOk gW ps:=
 ⟨nd,K4,Ox,λp hp q hq h=>K5 (hl p hp q hq) h⟩
def vH(h:Heap)(v:Value)(p:Tk):Prop:=∃ a o t b n its,v=.ref a/\h.get? a=some o/\o.cls=.type "tuple"/\o.data=.seq (List.toArray [.int p.1 t,.ref b]) n/\IsTup h b (List.toArray its)/\IntsAre its p.2
section
variable{prog:Program}{w:World}{A:Around}{E:Value->Shared->Prop}{s:Shared}{v u:Value}{p q:Tk}
theorem Ac:∀ {l m:List Int},l.length=m.length->LtK (l.map .inl) (m.map .inl) (ltI l m)
 |[],[],_=>.nn
 |a::l,b::m,h=>by
  rw[Zas,Zas];unfold ltI;by_cases e:a=b
  ·subst e;rw[Zal rfl];exact .eq _ (Ac (by simpa using h))
  ·rw[Zak e];exact .int _ _ e
theorem rK:∀ {ys:List Value}{ns:List Int},IntsAre ys ns->Vals ((ns.map .inl:List Key).map kV) ys
 |_,_,.nil=>.nil
 |_,_,.cons n t h=>.cons ⟨t,rfl⟩ (rK h)
theorem wL{A:Around}{s:Shared}{ys zs:List Value}{ns ms:List Int}(hy:IntsAre ys ns)(hz:IntsAre zs ms)(j:Nat)(h1:j<ys.toArray.size)(h2:j<zs.toArray.size):SeqAt.EqAt A s ys.toArray[j] zs.toArray[j] (ns.getD j 0==ms.getD j 0):=by
 have get:∀ {ys:List Value}{ns:List Int},IntsAre ys ns->∀ (j:Nat) (h:j<ys.length),∃ t,ys[j]=.int (ns.getD j 0) t:=by
  intro ys ns h;induction h with
  |nil=>intro j h;simp at h
  |cons n t h ih=>
   intro j hj;cases j with
   |zero=>exact⟨t,rfl⟩
   |succ j=>exact ih j (by simpa using hj)
 obtain⟨t,e⟩:=get hy j (by simpa using h1)
 obtain⟨t',e'⟩:=get hz j (by simpa using h2)
 have e:ys.toArray[j]=.int (ns.getD j 0) t:=by simpa using e
 have e':zs.toArray[j]=.int (ms.getD j 0) t':=by simpa using e'
 rw[e,e'];exact SeqAt.EqAt.int_int _ _ _ _
theorem vH.lt(hp:vH s.heap v p)(hq:vH s.heap u q)(hl:p.1=q.1->p.2.length=q.2.length)(hu:A.units<cLine){Q:Bool->Shared->Prop}(h:Q (gW p q) s):wpAny (model prog w) A (keyLt' (tuples' true) v u) Q E s:=by
 obtain⟨a,o,t,b,n,ys,rfl,e1,e2,e3,e4,e5⟩:=hp;obtain⟨a',o',t',b',n',zs,rfl,f1,f2,f3,f4,f5⟩:=hq;refine kat_lt e1 e3 f1 f3 (kat_cons (wpAny_eqBool_int ?_));unfold gW at h;by_cases c:p.1=q.1
 ·rw[beq_iff_eq.mpr c];rw[Zal c] at h;refine kat_yes (kat_cons ?_);have ll:=hl c;by_cases d:p.2=q.2
  ·have ee:SeqAt.EqAt A s (.ref b) (.ref b') true:=by
    by_cases hb:b=b'
    ·subst hb;exact SeqAt.EqAt.same _
    ·have rc:=SeqAt.RcAt.tuples (A:=A) (e:=λj=>p.2.getD j 0==q.2.getD j 0) e4 f4 hu λj h1 h2=>wL e5 f5 j h1 h2;rw[show((List.range (min ys.toArray.size zs.toArray.size)).all (λj=>p.2.getD j 0==q.2.getD j 0)&&ys.toArray.size==zs.toArray.size)=true by
      rw[Bool.and_eq_true];refine⟨Zbx.mpr λj _=>by rw[d];exact beq_self_eq_true _,?_⟩
      rw[List.size_toArray,List.size_toArray,my e5,my f5,d];exact beq_self_eq_true _] at rc
     exact .of_refs hb rc
   refine ee _ _ _ _ (kat_yes (kat_nil ?_));rw[d,ph] at h;exact h
  ·have hb:b≠b':=λz=>d (by
    subst z;obtain⟨o1,g1,_,n1,g2⟩:=e4;obtain⟨o2,k1,_,n2,k2⟩:=f4;rw[g1] at k1;cases k1;rw[g2] at k2;injection k2 with z1 _
    have z1:=ZbI Array.toList z1;simp only at z1;subst z1;exact rH e5 f5)
   have rc:=SeqAt.RcAt.tuples (A:=A) (e:=λj=>p.2.getD j 0==q.2.getD j 0) e4 f4 hu λj h1 h2=>wL e5 f5 j h1 h2;rw[show((List.range (min ys.toArray.size zs.toArray.size)).all (λj=>p.2.getD j 0==q.2.getD j 0)&&ys.toArray.size==zs.toArray.size)=false by
    refine Bool.eq_false_iff.mpr λz=>d ?_;rw[Bool.and_eq_true] at z;have z:=Zbx.mp z.1;rw[List.size_toArray,List.size_toArray,my e5,my f5,ll,Nat.min_self] at z;apply Zbj
    intro j;by_cases hj:j<q.2.length
    ·have:=z j (ZaR.mpr hj);have:=beq_iff_eq.mp this;rw[Zag,Zag,Zaa hj,Zaa (show j<p.2.length by omega)] at this
     rw[Zaa hj,Zaa (show j<p.2.length by omega)]
     exact ZbI some this
    ·rw[Zat (by omega),Zat (by omega)]] at rc
   refine SeqAt.EqAt.of_refs hb rc _ _ _ _ (kat_no ?_);rw[show(true&&0+1==0)=false by rfl]
   exact kat_one _ _ (Cz e4 f4 (rK e5) (rK f5) (Ac ll) hu h)
 ·rw[beq_eq_false_iff_ne.mpr c];rw[Zak c] at h;refine kat_no ?_;show wpAny _ _ (oneLt' true _ _) _ _ _
  exact oneLt_int h
end
noncomputable abbrev Cx.inK(X:Cx):Cx:={ X with A:=X.A.in1.in1,xe:=λ_ _=>False }
section
variable{X:Cx}{pins:List (Addr×Obj)}{σ:St}{H:Hp}{s:Shared}{h':Heap}
theorem Cx.Ok.inK(o:X.Ok):X.inK.Ok:=⟨o.mod,o.kind,o.glob,o.blt,o.above,o.inj,o.has,o.cab,o.hd,o.frames,o.stk,o.exf,o.bs,o.bsz,o.noex,o.exfs,o.pI,o.frf⟩
theorem Cx.Ok.RL(o:X.inK.Ok):X.Ok:=⟨o.mod,o.kind,o.glob,o.blt,o.above,o.inj,o.has,o.cab,o.hd,o.frames,o.stk,o.exf,o.bs,o.bsz,o.noex,o.exfs,o.pI,o.frf⟩
theorem Inv.inK(I:Inv X pins σ H s):Inv X.inK pins σ H s:=⟨I.ok.inK,I.os,I.bare,I.base,I.loc,I.cell,I.free,I.freeC,I.pin,I.hok,I.len⟩
theorem Inv.RL(I:Inv X.inK pins σ H s):Inv X pins σ H s:=⟨I.ok.RL,I.os,I.bare,I.base,I.loc,I.cell,I.free,I.freeC,I.pin,I.hok,I.len⟩
theorem Inv.adopt{t':Nat}{a:Addr}{o:HO}(I:Inv X pins σ H s)(f:oK X pins H a)(k:∀ b o,b≠a->s.heap.get? b=some o->h'.get? b=some o)(new:cL X.prog X.w (upd H a o) h' a o):Inv X pins σ (upd H a o) { s with heap:=h',toks:=t' }:=by
 have hn:=f.1;have nc:∀ {b:Addr},b ∉ [a]->b≠a:=λh z=>h (by simp[z])
 refine I.step (g':=s.gens) (d':=s.drawn) (ch:=[a]) (λb hb=>?_) (λb o _ _ hc e _=>k b o (nc hc) e) (λb o _ _ hc e _=>⟨o.slots,k b o (nc hc) e⟩) (λb ob hc e n=>by rw[aq (nc hc)];exact n)
  (λb o hc e=>⟨o,k b o (nc hc) e⟩) (λb xs e=>by rw[aq (aW e hn)];exact e) (λb ob u e=>by rw[aq (aW e hn)];exact e) (λb ps e=>⟨#[],by rw[aq (aW e hn),e];simp⟩) (λm hm=>?_) (λb u e=>?_) I.bare
 ·have e:b=a:=by simpa using hb
  subst e;exact⟨f.2.2.2.1,f.2.1,f.2.2.2.2.1,f.2.2.2.2.2⟩
 ·obtain⟨o,es,ep,ho,r⟩:=hm;exact⟨o,es,ep,k _ o (λz=>f.2.1 z.symm) ho,r⟩
 ·by_cases hb:b=a
  ·subst hb;rw[aA] at e;cases e;exact new
  ·rw[aq hb] at e;refine(I.hok b u e).stay (λc v hc q=>k c v ?_ q) (λc q=>by rw[aq (aW q hn)];exact q) λc xs q=>by rw[aq (aW q hn)];exact q
   rcases hc with z|z
   ·rw[z];exact hb
   ·exact aW z hn
end
def yo(X:Cx)(pins:List (Addr×Obj))(f:Value)(r:List V->Hp->VK->Prop):Prop:=
 ∀ (pins2:List (Addr×Obj)) (s:Shared) (σ:St) (H:Hp) (xs:List V) (us:List Value) (Q:VK),(∀ p∈pins,p∈pins2)->Inv X pins2 σ H s->Vals xs us->r xs H Q->wpAny (model X.prog X.w) X.A (call f us) (EP X pins2 σ Q) X.xe s
theorem fL.pin{X:Cx}{pins:List (Addr×Obj)}{f:Value}{r:List V->Hp->VK->Prop}(h:fL X f r):yo X pins f r:=λpins2 s σ H xs us Q _ I rv q=>h pins2 s σ H xs us Q I rv q
def wM(rk:List V->Hp->VK->Prop):List V->List V->Hp->(List V->Hp->Prop)->Prop
 |[],ks,H,R=>R ks H
 |x::xs,ks,H,R=>rk [x] H λk H1=>wM rk xs (ks++[k]) H1 R
def TkV(H:Hp)(k:V)(p:Tk):Prop:=∃ a b,k=.ref a/\H a=some (.tup [.int p.1,.ref b])/\H b=some (.tup (p.2.map V.int))
section
variable{X:Cx}{pins:List (Addr×Obj)}{σ:St}{H:Hp}{s:Shared}{f:Value}{rk:List V->Hp->VK->Prop}{kS a:Addr}
structure Ad(X:Cx)(pins:List (Addr×Obj))(kS a:Addr):Prop where
 ne:kS≠a
 k:∀ H:Hp,H kS=none->oK X pins H kS
 a:∀ H:Hp,H a=none->oK X pins H a
theorem rT{xs:Array Value}{n:Nat}(v:Option Value):(seqObj "list" xs n).data≠.cell v:=λz=>by cases z
theorem Ad.pin(M:Ad X pins kS a){ks as:Array Value}{e e1:Nat}(I:Inv X pins σ H s)(h1:s.heap.get? kS=some (seqObj "list" ks e))(h2:s.heap.get? a=some (seqObj "list" as e1))(n1:H kS=none)(n2:H a=none) :
  Inv X (pins++[(kS,seqObj "list" ks e),(a,seqObj "list" as e1)]) σ H s:=
 I.wW λp hp=>(Zad.mp hp).elim (λz=>I.pin p (ZaA _ z)) λz=>by
  rcases Zay.mp z with rfl|z
  ·obtain⟨f0,f1,f2,_⟩:=M.k H n1;exact⟨h1,f0,f1,f2,rT⟩
  ·rw[Zai.mp z];obtain⟨f0,f1,f2,_⟩:=M.a H n2;exact⟨h2,f0,f1,f2,rT⟩
theorem TkV.at{k:V}{p:Tk}{u:Value}(I:Inv X pins σ H s)(h:TkV H k p)(r:RelV k u):vH s.heap u p:=by
 obtain⟨a,b,rfl,h1,h2⟩:=h;cases r;obtain⟨i1,v1,⟨o,w1,w2,n,w3⟩,_⟩:=I.tuple (SqT.of (K:=X.K) h1);obtain⟨i2,v2,t2,_⟩:=I.tuple (SqT.of (K:=X.K) h2);cases v1 with
 |cons r1 v1=>
  cases v1 with
  |cons r2 v1=>
   cases v1;obtain⟨t,rfl⟩:=r1;cases r2;exact⟨a,o,t,b,n,i2,rfl,w1,w2,w3,t2,MP.zB v2⟩
theorem HQ(hk:yo X.inK pins f rk)(M:Ad X pins kS a){vs:List Value}{xs:List V}{R:List V->Hp->Prop}{e1:Nat}(rv:Vals xs vs)(hz:vs.length<sizeLine)(h1:s.heap.get? kS=some (seqObj "list" #[] 0))(h2:s.heap.get? a=some (seqObj "list" #[] e1))(n1:H kS=none)(n2:H a=none)
  (I:Inv X pins σ H s)(h:wM rk xs [] H R){b:Bool}{P:PySem.Fin->Shared->Prop}{E:Value->Shared->Prop}
  (done:∀ (ks:List V) (kA:Array Value) (e:Nat) (H':Hp) (s':Shared),Inv X pins σ H' s'->s'.heap.get? kS=some (seqObj "list" kA e)->s'.heap.get? a=some (seqObj "list" #[] e1)->H' kS=none->H' a=none->Vals ks kA.toList->ks.length=vs.length->R ks H' ->
   wpAny (model X.prog X.w) X.A.in1.in1 (ksk_end a b vs.toArray e1 (.ref kS) kA) P E s') :
  wpAny (model X.prog X.w) X.A.in1.in1 (ksk_rest a f b vs.toArray e1 (.ref kS)) P E s:=by
 unfold ksk_rest;refine Zab (wpAny_rule ?_);rw[List.forIn_toArray];refine Zab (ksk_fold (λi s'=>∃ (ks:List V) (kA:Array Value) (e:Nat) (H':Hp),Inv X (pins++[(kS,seqObj "list" kA e),(a,seqObj "list" #[] e1)]) σ H' s'/\Vals ks kA.toList/\ks.length=i/\wM rk (xs.drop i) ks H' R) vs 0 s
  ⟨[],#[],0,H,M.pin I h1 h2 n1 n2,.nil,rfl,h⟩ ?step ?fin)
 case step=>
  rintro j x s' hx ⟨ks,kA,e,H',I',vk,hl,hr⟩;simp only[Nat.zero_add] at hl hr ⊢;have hj:j<vs.length:=(ZaB.mp hx).1;have hjx:j<xs.length:=by rw[rv.length];exact hj
  rw[Za7 hjx] at hr;have hr:rk [xs[j]] H' λk H1=>wM rk (xs.drop (j+1)) (ks++[k]) H1 R:=hr;have rx:RelV xs[j] x:=by
   obtain⟨u,h1,h2⟩:=rv.get (Zaa hjx);rw[hx] at h1;cases h1;exact h2
  have kz:kA.size=j:=by
   rw[<-hl,vk.length];simp
  refine Zab (wpAny_attempt (Zbl (hk _ s' σ H' [xs[j]] [x] _ (λp hp=>List.mem_append_left _ hp) I'.inK (.cons rx .nil) hr) (λv s'' he=>?_) λ_ _ hF=>hF.elim));obtain⟨k,H2,I2,rk2,hr2⟩:=he;have I2:=I2.RL;have nk:=I2.pin (kS,seqObj "list" kA e) (ZaA _ (ZaA _ (.head _)));have na:=I2.pin (a,seqObj "list" #[] e1) (ZaA _ (ZaA _ (.tail _ (.head _))));have s1:=Za0 s''.heap kS (Obj.mapSeq (·.push v));obtain⟨c2,hc2⟩:∃ c2,(s''.heap.update kS (Obj.mapSeq (·.push v))).get? kS=some (seqObj "list" (kA.push v) c2):=⟨_,get?_update_seq nk.1 (·.push v)⟩;refine Zab (listUpdate_at nk.1 rfl ?_ (by rw[kz];exact ZaJ (ZbG hj hz)) (ZaX (Nat.le_of_eq (Array.size_push ..)) (by rw[kz];exact Nat.succ_le_succ (ZaJ (ZbG hj hz)))))
  refine Zaj ⟨rfl,ks++[k],kA.push v,c2,H2,?_,by rw[Zbk];exact vk.append (.cons rk2 .nil),by rw[List.length_append,hl];rfl,hr2⟩
  have I3:Inv X pins σ H2 { s'' with heap:=s''.heap.update kS (Obj.mapSeq (·.push v)),toks:=s''.toks }:=I2.jD.nA (ch:=[kS]) (λb o hb q=>by rw[s1.2 b (λz=>hb (by simp[z]))];exact q) λb hb=>by rw[Zai.mp hb];exact M.k H2 nk.2.1
  exact M.pin I3 hc2 ((s1.2 a M.ne.symm).trans na.1) nk.2.1 na.2.1
 case fin=>
  rintro s' ⟨ks,kA,e,H',I',vk,hl,hr⟩;rw[Nat.zero_add] at hl hr;have nk:=I'.pin (kS,seqObj "list" kA e) (ZaA _ (ZaA _ (.head _)));have na:=I'.pin (a,seqObj "list" #[] e1) (ZaA _ (ZaA _ (.tail _ (.head _))));rw[List.drop_eq_nil_of_le (by rw[rv.length];exact Zaf _)] at hr
  refine Zab (listItems_at nk.1 rfl ?_);exact done ks kA e H' s' I'.jD nk.1 na.1 nk.2.1 na.2.1 vk hl hr
theorem uJ{h:Heap}:∀ {vs:List Value}{ps:List Tk},ps.length=vs.length->(∀ (i:Nat) v p,vs[i]?=some v->ps[i]?=some p->vH h v p)->∃ fs:List Value,KatTups h vs fs/\fs.length=vs.length/\∀ f∈fs,∃ x t,f=.int x t
 |[],_,_,_=>⟨[],.nil,rfl,λ_ h=>nomatch h⟩
 |v::vs,[],e,_=>by cases e
 |v::vs,p::ps,e,hp=>by
  obtain⟨a,o,t,b,n,ys,rfl,e1,e2,e3,_⟩:=hp 0 v p rfl rfl;obtain⟨fs,k,l,z⟩:=uJ (vs:=vs) (ps:=ps) (by simpa using e) λi v p h1 h2=>hp (i+1) v p h1 h2
  refine⟨_,.cons e1 e2 e3 rfl k,by simp[l],λf hf=>?_⟩
  rcases Zay.mp hf with y|y
  ·exact⟨_,_,y⟩
  ·exact z f y
theorem vH.Ow{h:Heap}{v:Value}{p q:Tk}(x:vH h v p)(y:vH h v q):p=q:=by
 obtain⟨a,o,t,b,n,ys,rfl,h1,_,h3,⟨o1,g1,_,n1,g2⟩,h4⟩:=x;obtain⟨a',o',t',b',n',zs,e,k1,_,k3,⟨o2,l1,_,n2,l2⟩,k4⟩:=y;cases e;rw[h1] at k1;cases k1;rw[h3] at k3;injection k3 with e1 _
 have e1:=ZbI Array.toList e1;simp only at e1;injection e1 with e2 e3
 injection e2 with e4 _
 injection e3 with e5 _
 cases e5;rw[g1] at l1;cases l1;rw[g2] at l2;injection l2 with z1 _
 have z1:=ZbI Array.toList z1;simp only at z1;subst z1;exact Prod.ext e4 (rH h4 k4)
theorem K6{ks vs:List Value}(hk:ks.length=vs.length)(h:vs.length<2):((ks.toArray.zip vs.toArray).map (·.2)).toList=(List.range vs.length).map λi=>vs.getD i .none:=by
 cases vs with
 |nil=>simp
 |cons v l=>
  cases l with
  |nil=>
   cases ks with
   |nil=>cases hk
   |cons k ks=>
    cases ks with
    |nil=>simp[List.range_succ]
    |cons=>simp at hk
  |cons u l=>simp at h;omega
theorem K7(M:Ad X pins kS a){vs:List Value}{ks xs:List V}{kA:Array Value}{e e1:Nat}{ps:List Tk}(I:Inv X pins σ H s)(h1:s.heap.get? kS=some (seqObj "list" kA e))(h2:s.heap.get? a=some (seqObj "list" #[] e1))(n1:H kS=none)(n2:H a=none)
  (rv:Vals xs vs)(vk:Vals ks kA.toList)(hl:ks.length=vs.length)(hz:vs.length<sizeLine)(hp:ps.length=vs.length)(ht:∀ (i:Nat) k p,ks[i]?=some k->ps[i]?=some p->TkV H k p)(nd:ps.Nodup)(hn:∀ p∈ps,∀ q∈ps,p.1=q.1->p.2.length=q.2.length)(hu:X.A.in1.in1.units<cLine)
  {P:PySem.Fin->Shared->Prop}{E:Value->Shared->Prop}(h:∀ s',Inv X pins σ (upd H a (.lst ((jJ gW ps).map λj=>xs.getD j (.bl false)))) s'->P (.done (.ret .none)) s') :
  wpAny (model X.prog X.w) X.A.in1.in1 (ksk_end a false vs.toArray e1 (.ref kS) kA) P E s:=by
 have kl:kA.toList.length=vs.length:=by rw[<-vk.length];exact hl
 have ks2:kA.size=vs.length:=by rw[<-kl];simp
 have at_:∀ (i:Nat) v p,kA.toList[i]?=some v->ps[i]?=some p->vH s.heap v p:=λi v p e1 e2=>by
  obtain⟨k,f1,f2⟩:=MP.um vk e1;exact(ht i k p f1 e2).at I f2
 have ok:=Ud nd hn;have gk:∀ i,i<ps.length->kA.toList[i]?=some (kA.toList.getD i .none):=λi hi=>by rw[Zag,Zaa (by omega)];rfl
 have gp:∀ i,i<ps.length->ps[i]?=some (ps.getD i default):=λi hi=>by rw[Zag,Zaa hi];rfl
 have ar:kA=kA.toList.toArray:=by simp
 have tail:∀ st:SortSt,failedOf st=none->(arrOf st).map (·.2)=List.toArray ((jJ gW ps).map λi=>vs.getD i .none)->wpAny (model X.prog X.w) X.A.in1.in1 (ksk_tail a false e1 (.ref kS) st) P E s:=λst hf hm=>by
  unfold ksk_tail;dsimp only;have s1:=Za0 s.heap kS (Obj.mapSeq λ_=>(#[]:Array Value));have na1:(s.heap.update kS (Obj.mapSeq λ_=>(#[]:Array Value))).get? a=some (seqObj "list" #[] e1):=(s1.2 a M.ne.symm).trans h2;refine Zab (listUpdate_at h1 rfl ?_ (by rw[ks2];exact ZaJ hz) (Zba _))
  refine Zab (wpAny_letGo ?_);refine Zab (seqEpoch_at na1 rfl ?_);rw[hm,hf];refine Zab (listUpdate_at na1 rfl ?_ (Zba _) ?_)
  ·simp only[bne_self_eq_false,ZbZ,ZbJ];refine Zaj (h _ ?_);obtain⟨c2,hc2⟩:∃ c2,((s.heap.update kS (Obj.mapSeq λ_=>(#[]:Array Value))).update a (Obj.mapSeq λ_=>List.toArray ((jJ gW ps).map λi=>vs.getD i .none))).get? a=some (seqObj "list" (List.toArray ((jJ gW ps).map λi=>vs.getD i .none)) c2):=⟨_,get?_update_seq na1 λ_=>_⟩;have I1:Inv X pins σ H { s with heap:=s.heap.update kS (Obj.mapSeq λ_=>(#[]:Array Value)),toks:=s.toks }:=I.nA (ch:=[kS]) (λb o hb q=>by rw[s1.2 b (λz=>hb (by simp[z]))];exact q) λb hb=>by rw[Zai.mp hb];exact M.k H n1
   have s2:=Za0 (s.heap.update kS (Obj.mapSeq λ_=>(#[]:Array Value))) a (Obj.mapSeq λ_=>List.toArray ((jJ gW ps).map λi=>vs.getD i .none));refine I1.adopt (t':=s.toks) (M.a H n2) (λb o hb q=>by rw[s2.2 b hb];exact q) ⟨?_,(jJ gW ps).map λi=>vs.getD i .none,c2,zH λj hj=>?_,hc2⟩
   ·rw[List.length_map,Ab,hp];exact ZaJ hz
   ·have hj:=qi j hj;have hx:j<xs.length:=by rw[rv.length];omega
    obtain⟨u,f1,f2⟩:=rv.get (Zaa hx);rw[Zag (l:=xs),Zaa hx,Zag (l:=vs),f1];exact f2
  ·show(List.toArray ((jJ gW ps).map λi=>vs.getD i .none)).size<=_
   rw[List.size_toArray,List.length_map,Ab,hp];exact Nat.le_succ_of_le (ZaJ hz)
 unfold ksk_end;dsimp only;simp only[ZbZ,ZbJ];by_cases h2:vs.toArray.size<2
 ·rw[Zal h2,Zal h2];refine Zab (Zaj ?_);rw[StateT.run_pure];refine Zab (Zaj ?_);dsimp only;refine tail _ rfl ?_;show(kA.zip vs.toArray).map (·.2)=_
  rw[List.size_toArray] at h2;have eo:jJ gW ps=List.range vs.length:=(ok.Ow (by rw[hp]) (Hr h2)).symm
  apply Array.toList_inj.mp
  rw[eo,ar,K6 kl h2]
 ·rw[Zak h2,Zak h2];rw[List.size_toArray] at h2;obtain⟨fs,k1,k2,k3⟩:=uJ (by omega) at_
  rw[ar];refine Zab (kat_kind (T:=.type "int") k1 (by omega) (λf hf=>?_) (by decide) ?_)
  ·obtain⟨x,t,rfl⟩:=k3 f hf;exact .now
  rw[show tuples' (Value.type "int" != Value.type "tuple")=tuples' true from rfl];have run:=HN (prog:=X.prog) (w:=X.w) (A:=X.A.in1.in1) (E:=E) (s:=s) (ks:=kA.toList) (vs:=vs) (κ:=tuples' true) ok (by omega) hp.symm
   (λi j hi hj e=>ok.inj hi hj ((at_ i _ _ (gk i hi) (gp i hi)).Ow (e▸at_ j _ _ (gk j hj) (gp j hj))))
   λi j hi hj E Q q=>vH.lt (at_ i _ _ (gk i hi) (gp i hi)) (at_ j _ _ (gk j hj) (gp j hj)) (hn _ (rJ hi) _ (rJ hj)) hu q
  refine Zab (Zbl run ?_ λ_ _ e=>e);rintro⟨⟨⟩,st'⟩ s' ⟨rfl,hf,hm,_⟩;exact tail st' hf hm
def K8(K:Frag)(rk:List V->Hp->VK->Prop)(x:V)(H:Hp)(Q:VK):Prop:=∃ (p:Addr) (xs:List V),x=.ref p/\SqL K H p xs/\xs.length<sizeLine /\
 wM rk xs [] H λks H'=>∃ ps:List Tk,ps.length=xs.length/\(∀ (i:Nat) k p,ks[i]?=some k->ps[i]?=some p->TkV H' k p)/\ps.Nodup/\(∀ p∈ps,∀ q∈ps,p.1=q.1->p.2.length=q.2.length) /\
  ∀ l,H' l=none->Q (.ref l) (upd H' l (.lst ((jJ gW ps).map λj=>xs.getD j (.bl false))))
theorem yp{q:Addr}(hk:yo X.inK pins (.ref q) rk)(hu:X.A.in1.in1.units<cLine){x:V}{u:Value}{Q:VK}(I:Inv X pins σ H s)(rx:RelV x u)(h:K8 X.K rk x H Q) :
  wpAny (model X.prog X.w) X.A (call (.builtin "sorted") [u] [(Str.ofString "key",.ref q)]) (EP X pins σ Q) X.xe s:=by
 obtain⟨p,xs,rfl,hq,hz,h⟩:=h;cases rx;obtain⟨vs,rv,pl,_⟩:=I.list hq;have hz:vs.length<sizeLine:=by rw[<-rv.length];exact hz
 refine call_function_entry_kw kind_sorted plain_sorted entry_sorted (ksk_s1 _ _) ?_;unfold Builtin.«sorted»;refine Zab (m:=checkCount "sorted" 1 1 _) (Zaj ?_);refine Zab (collect_list pl.isList ?_ (ZaJ hz));refine Zab (wpAny_newList ?_ (ZaJ hz));have hsz:((s.heap.push (seqObj "list" #[] 0)).update s.heap.objs.size (Obj.mapSeq (·++vs.toArray))).objs.size=s.heap.objs.size+1:=by
  rw[Heap.size_update,size_push']
 have hoL:(((s.heap.push (seqObj "list" #[] 0)).update s.heap.objs.size (Obj.mapSeq (·++vs.toArray))).push (seqObj "list" vs.toArray 0)).get? (s.heap.objs.size+1)=some (seqObj "list" vs.toArray 0):=by
  rw[<-hsz];exact Zam _ rfl
 have keep:∀ b o,s.heap.get? b=some o->(((s.heap.push (seqObj "list" #[] 0)).update s.heap.objs.size (Obj.mapSeq (·++vs.toArray))).push (seqObj "list" vs.toArray 0)).get? b=some o:=λb o q=>by
  have hlt:b<s.heap.objs.size:=Zaq q;rw[Heap.get?_push_ne _ _ _ (by rw[hsz];exact Zaz (Zbr hlt)),Heap.get?_update_ne _ _ _ _ (Zaz hlt),Heap.get?_push_ne _ _ _ (Zaz hlt)]
  exact q
 show wpAny _ _ _ _ _ { s with heap:=((s.heap.push (seqObj "list" #[] 0)).update s.heap.objs.size (Obj.mapSeq (·++vs.toArray))).push (seqObj "list" vs.toArray 0) }
 rw[hsz];have hsz2:(((s.heap.push (seqObj "list" #[] 0)).update s.heap.objs.size (Obj.mapSeq (·++vs.toArray))).push (seqObj "list" vs.toArray 0)).objs.size=s.heap.objs.size+2:=by
  rw[size_push',hsz]
 generalize ((s.heap.push (seqObj "list" #[] 0)).update s.heap.objs.size (Obj.mapSeq (·++vs.toArray))).push (seqObj "list" vs.toArray 0)=g at hoL keep hsz2
 refine Zab (wpAny_holding (wpAny_call_entry_kw slot_list_sort ⟨_,hoL,rfl⟩ entry_list_sort ?_ (ksk_l1 _ _)));show wpAny (model X.prog X.w) X.A.in1.in1 (Builtin.«list.sort» ⟨[.ref (s.heap.objs.size+1)],_⟩) _ _ _
 rw[ksk_t1];have s1:=Za0 g (s.heap.objs.size+1) (Obj.mapSeq λ_=>(#[]:Array Value));obtain⟨e1,ho1⟩:∃ e1,(g.update (s.heap.objs.size+1) (Obj.mapSeq λ_=>(#[]:Array Value))).get? (s.heap.objs.size+1)=some (seqObj "list" #[] e1):=⟨_,get?_update_seq hoL λ_=>#[]⟩;have hkS:((g.update (s.heap.objs.size+1) (Obj.mapSeq λ_=>(#[]:Array Value))).push (seqObj "tuple" vs.toArray 0)).objs.size=s.heap.objs.size+3:=by rw[size_push',Heap.size_update,hsz2]
 unfold ksk_tree;refine Zab (listItems_at hoL rfl ?_);refine Zab (listUpdate_at hoL rfl ?_ (by rw[List.size_toArray];exact ZaJ hz) (Zba _))
 refine Zab (seqEpoch_at ho1 rfl ?_);refine Zab (wpAny_newTuple ?_ (by show vs.length<=_;exact ZaJ hz))
 refine Zab (wpAny_newList ?_ (Zba _));refine wpAny_holding ?_;rw[hkS];have fresh:∀ b,s.heap.objs.size<=b->H b=none:=λb hb=>I.hok.fresh hb;have keep2:∀ b o,s.heap.get? b=some o->(((g.update (s.heap.objs.size+1) (Obj.mapSeq λ_=>(#[]:Array Value))).push (seqObj "tuple" vs.toArray 0)).push (seqObj "list" #[] 0)).get? b=some o:=λb o q=>
  Zac _ (Zac _ (by rw[s1.2 b (Zaz (Zbr (Zaq q)))];exact keep b o q))
 have M:Ad X pins (s.heap.objs.size+3) (s.heap.objs.size+1):=⟨λz=>absurd (Nat.add_left_cancel z:3=1) (by decide),λH h=>I.tZ (Nat.le_add_right _ _) h,λH h=>I.tZ (Nat.le_add_right _ _) h⟩
 refine HQ (s:={ s with heap:=((g.update (s.heap.objs.size+1) (Obj.mapSeq λ_=>(#[]:Array Value))).push (seqObj "tuple" vs.toArray 0)).push (seqObj "list" #[] 0) }) hk M rv hz (by
   have:=Zam ((g.update (s.heap.objs.size+1) (Obj.mapSeq λ_=>(#[]:Array Value))).push (seqObj "tuple" vs.toArray 0)) (o:=seqObj "list" #[] 0) rfl;rw[hkS] at this;exact this) (Zac _ (Zac _ ho1)) (fresh _ (by omega)) (fresh _ (by omega)) (I.kept (t':=s.toks) keep2) h ?_
 intro ks kA e H' s' I' g1 g2 n1 n2 vk hl hr;obtain⟨ps,hp,ht,nd,hn,hQ⟩:=hr;refine K7 M I' g1 g2 n1 n2 rv vk hl hz (by rw[hp,rv.length]) ht nd hn hu λs2 I2=>⟨_,rfl,?_⟩
 exact Zaj ⟨_,rfl,.ref _,_,I2,rfl,hQ _ n2⟩
end
def FT(K:Frag)(rk:List V->Hp->VK->Prop):List V->Hp->VK->Prop:=λvs H Q=>∃ x,vs=[x]/\K8 K rk x H Q
section
variable{X:Cx}{k:Nat}{ps:List Str}{sp:Sp}{x:Str}{p pos kp vp:Pos}{l:Expr}{ta:TA}
theorem FnAt.Ue(G:FnAt X.prog X.w X.K X.mg X.base x k ps sp)(hr:dN (k+2) X.A):∃ f:Addr,X.mg x=some (.ref f)/\keepIn X.K (.ref f)=true/\fL X.inK (.ref f) (λxs H Q=>sp xs H Q E0):=by
 obtain⟨f,fd,e1,e2,e3,e4⟩:=G;refine⟨f,e1,e2,λpins s σ H xs us Q I r h=>?_⟩;exact Jb (X:=X.inK) e4 hr.in1.in1 e3 .nil Qd I r (by rw[ZaS];exact h)
theorem K9(G:FnAt X.prog X.w X.K X.mg X.base x k ps sp)(hr:dN (k+2) X.A)(hgx:Gl X x)(hg:Gl X "sorted")(hm:X.mg "sorted"=none)(ha:PA X [l] ta)(hs:starEach [l] X.env=[(false,eval l X.env)]:=by rfl)(hdb:(x==("__debug__":Str))=false:=by decide) :
  PE X (.Call (.Name "sorted" p) [l] [⟨some "key",.Name x vp,kp⟩] pos) (tCB (FT X.K (λxs H Q=>sp xs H Q E0)) ta):=by
 intro pins s σ H Q I h;obtain⟨f,e1,e2,hk⟩:=G.Ue hr;have he:eval (.Call (.Name "sorted" p) [l] [⟨some "key",.Name x vp,kp⟩] pos) X.env=(do callWith pos (<-eval (.Name "sorted" p) X.env) [] (backTo pos (starEach [l] X.env)) (backToKw pos (keywordEach [⟨some "key",.Name x vp,kp⟩] X.env))):=rfl
 rw[he];refine Zab (qT I hg hm boot_sorted (callWith_builtin_kwB (by rw[hs];rfl) rfl ?_))
 have hb:backTo pos (starEach [l] X.env)=[(false,eval l X.env)]:=by rw[hs];rfl
 have ha':=ha pos pins s σ H _ I h;rw[hb] at ha' ⊢;refine evalArgs_kwB rfl (thn ha' ?_);rintro us s1 ⟨vs,H1,I1,r1,q1⟩;refine kws_cons (Ec I1 hgx e1 (kws_nil ?_) hdb);obtain⟨y,rfl,q⟩:=q1;cases r1 with
 |cons r rr=>
  cases rr;exact yp hk.pin (by have:=hr.un;show X.A.units+1+1<_;omega) I1 r q
end
namespace MP
def RM:PV->Option Tk
 |.tup [.int n,.tup l]=>(jB l).map λns=>(n,ns)
 |_=>none
def keysOf(m:List PV->Option (Res PV)):List PV->Option (List Tk)
 |[]=>some []
 |p::l=>match m [p] with
  |some (.ok q)=>match RM q,keysOf m l with
   |some t,some ts=>some (t::ts)
   |_,_=>none
  |_=>none
def kY(m:List PV->Option (Res PV))(l:List PV):Option (Res PV):=match keysOf m l with
 |some ts=>if ts.Nodup/\(∀ p∈ts,∀ q∈ts,p.1=q.1->p.2.length=q.2.length)/\l.length<sizeLine then some (.ok (.lst ((jJ gW ts).map λj=>l.getD j .non))) else none
 |none=>none
theorem uK{m:List PV->Option (Res PV)}:∀ {l:List PV}{ts:List Tk},keysOf m l=some ts->ts.length=l.length
 |[],ts,h=>by cases h;rfl
 |p::l,ts,h=>by
  unfold keysOf at h;split at h
  ·split at h
   ·rename_i t ts' h1 h2;cases h;rw[ZaN,ZaN,uK h2]
   ·cases h
  ·cases h
section
variable{K:Frag}{C:Cg}{F H:Hp}
theorem Oz{F:Hp}{v:V}{q:PV}{t:Tk}(h:RM q=some t)(r:Rep K F v q):TkV F v t:=by
 match q,h with
 |.tup [.int n,.tup l],h=>
  have h:(jB l).map (λns=>(n,ns))=some t:=h;obtain⟨ns,e1,rfl⟩:=ZbX.mp h;obtain⟨a,zs,rfl,ha,rr⟩:=Rep.lO r;obtain⟨v1,ys1,rfl,s1,s2⟩:=rr.dB;obtain⟨v2,ys2,rfl,s3,s4⟩:=s2.dB;cases s4.iC;cases Rep.bf s1;obtain⟨b,ws,rfl,hb,rs⟩:=Rep.lO s3;refine⟨a,b,rfl,ha,?_⟩;rw[hb,wk e1 rs]
theorem La{F F':Hp}{v:V}{t:Tk}(h:TkV F v t)(s:aR F F'):TkV F' v t:=by
 obtain⟨a,b,rfl,h1,h2⟩:=h;exact⟨a,b,rfl,s _ _ h1,s _ _ h2⟩
theorem Ae{m:List PV->Option (Res PV)}{XR:Hp->Value->Option Addr->PV->Prop}{E:XK}{R:List V->Hp->Prop}:∀ {l:List PV}{xs ks:List V}{ts:List Tk}{F H:Hp},bG K F xs l->aR F H->keysOf m l=some ts ->
  (∀ ks' F' H',Up F H F' H'->ks'.length=ts.length->(∀ (i:Nat) k t,ks'[i]?=some k->ts[i]?=some t->TkV F' k t)->R (ks++ks') H')->wM (λxs H Q=>spM K XR m xs H Q E) xs ks H R
 |[],xs,ks,ts,F,H,r,s,h,g=>by
  cases h;cases r.iC;have:=g [] F H (Up.refl s) rfl λi k t e=>by simp at e
  rw[ZaS] at this;exact this
 |p::l,xs,ks,ts,F,H,r,s,h,g=>by
  obtain⟨v,ys,rfl,r1,r2⟩:=r.dB;unfold keysOf at h;split at h
  case h_2=>cases h
  rename_i q hq;split at h
  case h_2=>cases h
  rename_i t ts' ht hts;cases h;refine⟨[p],F,.ok q,s,.cons r1 .nil,hq,λw F' H' u rw'=>?_⟩;refine Ae (ks:=ks++[w]) (bG.up r2 u.ff) u.fh hts λks' F2 H2 u2 hl hk=>?_;have:=g (w::ks') F2 H2 (u.trans u2) (by simp[hl]) λi k t' e1 e2=>?_
  ·rw[Zau];exact this
  ·cases i with
   |zero=>cases e1;cases e2;exact La (Oz ht rw') u2.ff
   |succ i=>exact hk i k t' (by simpa using e1) (by simpa using e2)
theorem OD{m:List PV->Option (Res PV)}{XR:Hp->Value->Option Addr->PV->Prop}{E:XK}:R1O K C (aV K) (FT K (λxs H Q=>spM K XR m xs H Q E)) (kY m):=by
 intro F H x l res Q s ha e P;unfold kY at e;split at e
 case h_2=>cases e
 rename_i ts hts;split at e
 case isFalse=>cases e
 rename_i hc;cases e;obtain⟨b,xs,rfl,h1,r1⟩:=ha;have tl:=uK hts;refine⟨.ref b,rfl,b,xs,rfl,h1,by rw[r1.1];exact hc.2.2,Ae r1 s hts λks' F' H' u hl hk=>?_⟩
 rw[List.nil_append];refine⟨ts,by rw[tl,r1.1],λi k t e1 e2=>La (hk i k t e1 e2) u.fh,hc.1,hc.2.1,λa ha=>?_⟩
 refine P a F' _ (u.trans (Up.vq u.fh ha)) (u.hh.free ha) (u.fh.free ha) ⟨_,aA,by simp,λj x p e1 e2=>?_⟩
 rw[Zae] at e1 e2;cases ej:(jJ gW ts)[j]? with
 |none=>rw[ej] at e1;cases e1
 |some i=>
  rw[ej] at e1 e2;cases e1;cases e2;have hi:=qi i (ZaE ej);have hx:i<xs.length:=by rw[r1.1];omega
  have hl:i<l.length:=by omega
  show Rep K F' (xs.getD i (V.bl false)) (l.getD i PV.non)
  rw[Zag,Zaa hx,Zag,Zaa hl];exact Rep.up (r1.2 i _ _ (Zaa hx) (Zaa hl)) u.ff
end
end MP
open PySem PySem.Spec PyProof PyProof.Rows
def Lb:List V->Hp->VK->Prop:=λxs H Q=>∃ p kvs,xs=[.ref p]/\Rd H p (.dK kvs)/\∀ l,H l=none->Q (.ref l) (upd H l (.dK kvs))
def qj(v a:Addr):Heap->Prop:=λh=>h.IsItemsView v a
def tM:List V->Hp->VK->Prop:=λxs H Q=>∃ a kvs,xs=[.ref a]/\Rd H a (.dK kvs)/\∀ v,H v=none->Q (.ref v) (upd H v (.ext (qj v a)))
def sU(H:Hp):List Addr->List (Key×V)->Hp
 |a::as,kv::kvs=>upd (sU H as kvs) a (.tup [kV kv.1,kv.2])
 |_,_=>H
theorem jq{H:Hp}{b:Addr}:∀ {as:List Addr}{kvs:List (Key×V)},b ∉ as->sU H as kvs b=H b
 |[],_,_=>rfl
 |_::_,[],_=>rfl
 |a::as,kv::kvs,h=>by
  rw[sU,aq (λz=>h (by rw[z];exact List.mem_cons_self))]
  exact jq λz=>h (List.mem_cons_of_mem _ z)
theorem tO{H:Hp}{b:Addr}{kv:Key×V}:∀ {as:List Addr}{kvs:List (Key×V)}{j:Nat},as.Nodup->as[j]?=some b->kvs[j]?=some kv->sU H as kvs b=some (.tup [kV kv.1,kv.2])
 |[],_,j,_,h,_=>by simp at h
 |_::_,[],j,_,_,h=>by simp at h
 |a::as,k::kvs,0,_,h1,h2=>by cases h1;cases h2;exact aA
 |a::as,k::kvs,j+1,nd,h1,h2=>by
  obtain⟨n1,n2⟩:=Zbg.mp nd;have h1:as[j]?=some b:=by simpa using h1
  rw[sU,aq (λz=>n1 (by rw[<-z];exact ZaE h1))]
  exact tO n2 h1 (by simpa using h2)
theorem uL:∀ as:List Addr,Vals (as.map V.ref) (as.map Value.ref)
 |[]=>.nil
 |a::as=>.cons rfl (uL as)
def yq:List V->Hp->VK->Prop:=λxs H Q=>∃ v a kvs,xs=[.ref v]/\H v=some (.ext (qj v a))/\Rd H a (.dK kvs) /\
 ∀ l as,H l=none->(∀ b∈as,H b=none)->as.Nodup->l ∉ as->as.length=kvs.length->Q (.ref l) (upd (sU H as kvs) l (.lst (as.map V.ref)))
section
variable{X:Cx}
theorem Dc:fL X (.type "dict") Lb:=by
 intro pins s σ H xs us Q I rv h;obtain⟨p,kvs,rfl,e,q⟩:=h;obtain⟨u,rfl,ru⟩:=rv.one;cases ru;obtain⟨z,hd,vs,kv,dd⟩:=oG I.hok e;have hl:=kv.length;refine kt_call_dict (knd:=bx X.prog X.w) hd dd (by omega) λh' d' sb=>?_
 have fresh:H s.heap.objs.size=none:=I.hok.fresh (Zaf _);refine⟨.ref s.heap.objs.size,upd H s.heap.objs.size (.dK kvs),I.laid (t':=s.toks) (λb o eb=>?_) (Zaf _) ⟨z,?_,vs,kv,d'⟩,rfl,q _ fresh⟩
 ·exact(sb.2 b (Zaz (Zaq eb))).trans (Zac _ eb)
 ·exact beq_eq_false_iff_ne.mpr (Zb1 I.big)
theorem wN{o:Expr}{apos cpos:Pos}{tl:TE}(hl:PE X o tl)(hbase:attributeBase o "items" X.env (eval o X.env)=eval o X.env:=by rfl)(hline:(apos.endLine==cpos.line)=true:=by rfl) :
  PE X (.Call (.Attribute o "items" apos) [] [] cpos) (tCB tM (jk tl pK)):=by
 intro pins s σ H Q I h;refine wpAny_Call_method (T:="dict") (id:="dict.items") hbase rfl hline ZbP ZbQ PySem.F.type_dict_items (thn (hl pins s σ H _ I h) ?_);rintro u s1 ⟨x,H1,I1,rx,q1⟩;obtain⟨a,kvs,e,ha,q⟩:=q1;cases e;obtain rfl:u=Value.ref a:=rx;obtain⟨t1,t2,_⟩:=xn I1 (.inl ⟨kvs,ha⟩);refine⟨t1,t2,?_⟩;obtain⟨z,hs,vs,kv,dd⟩:=oG I1.hok ha;show wpAny _ _ (callWith cpos (.builtin "dict.items") [.ref a] [] []) _ _ s1
 refine method_meetsIn ZbQ PySem.F.entry_dict_items rfl (PySem.evalArgs_none ⟨rfl,t1,PySem.F.args_dict_items_1 _,_,meets_dict_items (bx X.prog X.w) a hs,⟨vs,dd⟩,?_⟩);have fresh:H1 s1.heap.objs.size=none:=I1.hok.fresh (Zaf _);have new:(s1.heap.push { cls:=.type "dict_items",data:=.fields #[.ref a] }).get? s1.heap.objs.size=some { cls:=.type "dict_items",data:=.fields #[.ref a] }:=Zam _ rfl;exact⟨.ref s1.heap.objs.size,upd H1 s1.heap.objs.size (.ext (qj s1.heap.objs.size a)),I1.laid (t':=s1.toks) (λb o e=>Zac _ e) (Zaf _) ⟨⟨_,new,rfl,rfl⟩,⟨_,new⟩,λh1 h2 ⟨o,g1,g2⟩ e=>⟨o,e o g1,g2⟩⟩,rfl,q _ fresh⟩
theorem Ld{pins:List (Addr×Obj)}{σ:List (Option V)}{s:Shared}{H:Hp}(I:Inv X pins σ H s):∀ {as:List Addr}{kvs:List (Key×V)},as.Nodup->(∀ a∈as,oK X pins H a)->as.length=kvs.length ->
  (∀ (j:Nat) a kv,as[j]?=some a->kvs[j]?=some kv->∃ key x,s.heap.get? a=some { cls:=.type "tuple",data:=.seq #[key,x] }/\RelV (kV kv.1) key/\RelV kv.2 x)->Inv X pins σ (sU H as kvs) s
 |[],kvs,_,_,_,_=>I
 |a::as,[],_,_,hl,_=>by cases hl
 |a::as,kv::kvs,nd,fp,hl,hp=>by
  obtain⟨n1,n2⟩:=Zbg.mp nd;have ih:=Ld I (as:=as) (kvs:=kvs) n2 (λb hb=>fp b (List.mem_cons_of_mem _ hb)) (by simpa using hl) λj b k e1 e2=>hp (j+1) b k (by simpa using e1) (by simpa using e2)
  obtain⟨key,x,g1,g2,g3⟩:=hp 0 a kv rfl rfl;have f:=fp a List.mem_cons_self;exact ih.adopt (t':=s.toks) (h':=s.heap) ⟨by rw[jq n1];exact f.1,f.2⟩ (λb o _ e=>e) ⟨by show 2<=sizeLine;decide,[key,x],.cons g2 (.cons g3 .nil),fu.mk g1⟩
theorem uM(hc:X.calm=true):fL X (.type "list") yq:=by
 intro pins s σ H xs us Q I rv h;obtain⟨v,a,kvs,rfl,hv,e,q⟩:=h;obtain⟨u,rfl,ru⟩:=rv.one;cases ru;have Vw:s.heap.IsItemsView v a:=(I.hok v _ hv).1;obtain⟨z,hd,vs,kv,dd⟩:=oG I.hok e;obtain⟨o,es,ep,d1,d2,d3,d4⟩:=dd;have hl:=kv.length;refine PySem.W.kdx_call (knd:=bx X.prog X.w) (kvs:=vs) (ep:=ep) (I.ok.hd hc) Vw ⟨o,es,d1,d2,d3,d4⟩ (by omega) λh' tk acc c as hold hS al G hacc=>?_
 have I1:Inv X pins σ H { s with heap:=h',toks:=tk }:=I.kept (t':=tk) hold;have nd:as.Nodup:=G.rise.imp λq=>Zaz q;have ge:∀ b∈as,s.heap.objs.size<=b:=λb hb=>ZaJ (G.above b hb);have fr:∀ b∈as,H b=none:=λb hb=>I.hok.fresh (ge b hb);have frl:H s.heap.objs.size=none:=I.hok.fresh (Zaf _);have nl:s.heap.objs.size ∉ as:=λhm=>absurd (G.above _ hm) (ZbM _);have al:as.length=kvs.length:=by omega
 have I2:=Ld I1 (as:=as) (kvs:=kvs) nd (λb hb=>I.tZ (ge b hb) (fr b hb)) al λj b k e1 e2=>by
  obtain⟨key,k',x,g1,g2,g3⟩:=G.pairs j b e1;obtain⟨y,y1,y2⟩:=J8 (P:=X.prog) (w:=X.w) kv e2;rw[g1] at y1;cases y1;exact⟨key,x,g3,xU g2,y2⟩
 have I3:=I2.adopt (t':=tk) (h':=h') (a:=s.heap.objs.size) (o:=.lst (as.map V.ref)) (I.tZ (Zaf _) (by rw[jq nl];exact frl)) (λb o _ e=>e) ⟨by rw[List.length_map];omega,acc.toList,c,by rw[hacc];exact uL as,by rw[Array.toArray_toList];exact hS⟩
 exact⟨.ref s.heap.objs.size,_,I3,rfl,q _ as frl fr nd nl al⟩
end
namespace MP
def yr:PV->Option (Res PV)
 |.dk l=>some (.ok (.dk l))
 |_=>none
def mD:PV->Option (Res PV)
 |.dk l=>some (.ok (.lst (fV l)))
 |_=>none
section
variable{K:Frag}{C:Cg}{ta:TE}{f:Fn PV}
theorem OJ:R1O K C (aD K) Lb yr:=by
 intro F H x a res Q s ha e P
 match a,e with
 |.dk l,e=>
  cases e;obtain⟨_,ad,rfl,xs,h1,h2,h3⟩:=ha;exact⟨ad,xs,rfl,h1,λl' hl=>P l' F _ (Up.vq s hl) hl (s.free hl) ⟨xs,aA,h2,h3⟩⟩
theorem Le:R1O K C (aD K) (λxs H Q=>tM xs H λx H2=>yq [x] H2 Q) mD:=by
 intro F H x a res Q s ha e P
 match a,e with
 |.dk l,e=>
  cases e;obtain⟨_,ad,rfl,xs,h1,h2,h3⟩:=ha;refine⟨ad,xs,rfl,h1,λv hv=>?_⟩;have u1:Up F H F (upd H v (.ext (qj v ad))):=Up.vq s hv;refine⟨v,ad,xs,rfl,aA,h1.imp (u1.hh _ _) λ⟨o,q⟩=>⟨o,u1.hh _ _ q⟩,λb as hb hs nd nl al=>?_⟩;have ne:∀ {c},upd H v (.ext (qj v ad)) c=none->H c=none:=λ{c} q=>by
   have:c≠v:=λz=>by rw[z,aA] at q;cases q
   rw[aq this] at q;exact q
  have hb':=ne hb;have hs':∀ c∈as,H c=none:=λc hc=>ne (hs c hc);have fs:∀ c∈as,F c=none:=λc hc=>s.free (hs' c hc);have sF:aR F (sU F as xs):=λc o q=>by rw[jq (λhm=>by rw[fs c hm] at q;cases q)];exact q
  have sH:aR (upd H v (.ext (qj v ad))) (upd (sU (upd H v (.ext (qj v ad))) as xs) b (.lst (as.map V.ref))):=λc o q=>by
   rw[aq (λz=>by rw[z,hb] at q;cases q),jq (λhm=>by rw[hs c hm] at q;cases q)];exact q
  have got:∀ {c:Addr},c∈as->∃ kv,∃ j:Nat,as[j]?=some c/\xs[j]?=some kv:=λ{c} hc=>by
   obtain⟨j,hj,rfl⟩:=List.getElem_of_mem hc;exact⟨xs[j],j,Zaa hj,Zaa (by omega)⟩
  have u2:Up F (upd H v (.ext (qj v ad))) (sU F as xs) (upd (sU (upd H v (.ext (qj v ad))) as xs) b (.lst (as.map V.ref))):=by
   refine⟨sF,sH,λc o q=>?_,λc o q=>?_⟩
   ·by_cases hm:c∈as
    ·exact .inr (.inl (hs c hm))
    ·rw[jq hm] at q;exact .inl q
   ·by_cases hm:c∈as
    ·obtain⟨kv,j,e1,e2⟩:=got hm;rw[tO nd e1 e2] at q;rw[aq (λz=>nl (by rw[<-z];exact hm)),tO nd e1 e2];exact q
    ·rw[jq hm] at q;exact sH c o (u1.fh c o q)
  have fb:sU F as xs b=none:=by rw[jq nl];exact s.free hb'
  refine P b _ _ (u1.trans u2) hb' fb ⟨_,aA,?_⟩;have len:xs.length=l.length:=by have:=ZbI List.length h2;simpa using this
  refine⟨by unfold fV;rw[List.length_map,List.length_map];omega,λj y p e1 e2=>?_⟩
  rw[Zae] at e1;unfold fV at e2;rw[Zae] at e2;cases ej:as[j]? with
  |none=>rw[ej] at e1;cases e1
  |some c=>
   rw[ej] at e1;cases e1;cases el:l[j]? with
   |none=>rw[el] at e2;cases e2
   |some kp=>
    rw[el] at e2;cases e2;have hj:j<xs.length:=by rw[len];exact(ZaB.mp el).1
    have ex:=Zaa hj;have ek:(xs[j]).1=kp.1:=by
     have:=ZbI (·[j]?) h2;simp only[Zae,ex,el,ZbB,Option.some.injEq] at this;exact this
    refine .tup (tO nd ej ex) rfl λn y p e1 e2=>?_
    match n with
    |0=>simp at e1 e2;subst e1 e2;rw[ek];exact xW
    |1=>simp at e1 e2;subst e1 e2;exact(h3 j _ _ ex el).up sF
    |n+2=>simp at e1
theorem wO(ha:MJ K C (aD K) ta f):MO K C (tCB yq (jk (tCB tM (jk ta pK)) pK)) (m1 mD f):=oX (rr:=λxs H Q=>tM xs H λx H2=>yq [x] H2 Q) Le ha
end
end MP
end L2
namespace MM
open PySem PySem.Spec PyProof.Rows L2 L2.MP
def Tv{α:Type}(x:Option (Res α))(Q:α->Prop):Prop:=∃ a,x=some (.ok a)/\Q a
def Out.calm:Out->Prop
 |.ex _=>False
 |_=>True
def To(x:Option Out)(Q:Out->Prop):Prop:=∃ o,x=some o/\Out.calm o/\Q o
def Dd(k:Rho->Prop)(Q:Out->Prop):Out->Prop
 |.nx ρ=>k ρ
 |o=>Q o
section
variable{α β γ:Type}{Q:α->Prop}{QS:Out->Prop}{k:β->Prop}{f:Fn PV}{g h:Fn PV}{ρ:Rho}{a:β}{z p:PV}{i:Nat}{s t:Sn}
theorem onNx_nx{k:Rho->Prop}:Dd k QS (.nx ρ)=k ρ:=rfl
theorem onNx_rt{k:Rho->Prop}:Dd k QS (.rt p)=QS (.rt p):=rfl
theorem onNx_ro{k:Rho->Prop}:Dd k QS (.ro p)=QS (.ro p):=rfl
theorem onNx_rd{k:Rho->Prop}:Dd k QS (.rd p)=QS (.rd p):=rfl
theorem onNx_bk{k:Rho->Prop}:Dd k QS (.bk ρ)=QS (.bk ρ):=rfl
theorem onNx_ct{k:Rho->Prop}:Dd k QS (.ct ρ)=QS (.ct ρ):=rfl
theorem tv_some{a:α}:Tv (some (.ok a)) Q=Q a:=by
 refine propext ⟨?_,λq=>⟨a,rfl,q⟩⟩;rintro⟨r',e,q⟩;cases e;exact q
theorem to_nx:To (some (.nx ρ)) QS=QS (.nx ρ):=propext ⟨λ⟨_,e,_,q⟩=>by cases e;exact q,λq=>⟨_,rfl,trivial,q⟩⟩
theorem to_rt:To (some (.rt p)) QS=QS (.rt p):=propext ⟨λ⟨_,e,_,q⟩=>by cases e;exact q,λq=>⟨_,rfl,trivial,q⟩⟩
theorem to_ro:To (some (.ro p)) QS=QS (.ro p):=propext ⟨λ⟨_,e,_,q⟩=>by cases e;exact q,λq=>⟨_,rfl,trivial,q⟩⟩
theorem to_rd:To (some (.rd p)) QS=QS (.rd p):=propext ⟨λ⟨_,e,_,q⟩=>by cases e;exact q,λq=>⟨_,rfl,trivial,q⟩⟩
theorem to_bk:To (some (.bk ρ)) QS=QS (.bk ρ):=propext ⟨λ⟨_,e,_,q⟩=>by cases e;exact q,λq=>⟨_,rfl,trivial,q⟩⟩
theorem to_ct:To (some (.ct ρ)) QS=QS (.ct ρ):=propext ⟨λ⟨_,e,_,q⟩=>by cases e;exact q,λq=>⟨_,rfl,trivial,q⟩⟩
theorem tv_bnd{x:Option (Res β)}{kk:β->Option (Res α)}:Tv (bnd x kk) Q=Tv x (λb=>Tv (kk b) Q):=by
 refine propext ⟨?_,?_⟩
 ·rintro⟨r,e,q⟩;rcases dU e with⟨z,e1,e2⟩|⟨b,e1,e2⟩
  ·cases e2
  ·exact⟨_,e1,r,e2,q⟩
 ·rintro⟨b,e,q⟩;subst e;exact q
theorem to_bnd{x:Option (Res β)}{kk:β->Option Out}:To (jE x kk) QS=Tv x (λb=>To (kk b) QS):=by
 refine propext ⟨?_,?_⟩
 ·rintro⟨r,e,c,q⟩;rcases dC e with⟨z,e1,rfl⟩|⟨b,e1,e2⟩
  ·exact c.elim
  ·exact⟨_,e1,r,e2,c,q⟩
 ·rintro⟨b,e,q⟩;subst e;exact q
theorem to_seq:To (bK s t ρ) QS=To (s ρ) (Dd (λρ'=>To (t ρ') QS) QS):=by
 refine propext ⟨?_,?_⟩
 ·rintro⟨r,e,c,q⟩;unfold bK at e;split at e
  ·rename_i ρ' h;exact⟨_,h,trivial,r,e,c,q⟩
  ·rename_i x hx;refine⟨r,e,c,?_⟩;cases r with
   |nx ρ'=>exact absurd e (hx ρ')
   |_=>exact q
 ·rintro⟨o,e,c,q⟩;unfold bK To;rw[e];cases o with
  |nx ρ'=>exact q
  |_=>exact⟨_,rfl,c,q⟩
theorem tQ:Tv (none:Option (Res α)) Q=False:=propext ⟨λ⟨_,e,_⟩=>(nomatch e),λh=>h.elim⟩
theorem O1:To none QS=False:=propext ⟨λ⟨_,e,_⟩=>(nomatch e),λh=>h.elim⟩
theorem tv_m2{op:β->γ->Option (Res α)}{f:Fn β}{g:Fn γ}:Tv (m2 op f g ρ) Q=Tv (f ρ) (λa=>Tv (g ρ) (λb=>Tv (op a b) Q)):=by
 unfold m2;simp only[tv_bnd]
theorem tv_m1{op:β->Option (Res α)}{f:Fn β}:Tv (m1 op f ρ) Q=Tv (f ρ) (λa=>Tv (op a) Q):=by unfold m1;rw[tv_bnd]
theorem tv_var{Q:PV->Prop}:Tv (mV i ρ) Q=∃ p,ρ[i]?=some (some (.sh p))/\Q p:=by
 refine propext ⟨?_,λ⟨p,e,q⟩=>⟨_,by unfold mV;rw[e],q⟩⟩
 rintro⟨r,e,q⟩;unfold mV at e;split at e
 ·rename_i p hp;cases e;exact⟨_,hp,q⟩
 ·cases e
theorem tv_lend{Q:PV->Prop}:Tv (mVL i ρ) Q=∃ s,ρ[i]?=some (some s)/\(match s with|.sh p=>Q p|.ow p=>Q p|.dp _=>False):=by
 refine propext ⟨?_,?_⟩
 ·rintro⟨r,e,q⟩;unfold mVL at e;split at e
  ·rename_i p hp;cases e;exact⟨_,hp,q⟩
  ·rename_i p hp;cases e;exact⟨_,hp,q⟩
  ·cases e
 ·rintro⟨s,e,q⟩;cases s with
  |sh p=>exact⟨_,by unfold mVL;rw[e],q⟩
  |ow p=>exact⟨_,by unfold mVL;rw[e],q⟩
  |dp p=>exact q.elim
theorem tv_c{Q:PV->Prop}:Tv (mC p ρ) Q=Q p:=tv_some
theorem tv_view{Q:List PV->Prop}:Tv (Fb f ρ) Q=Tv (f ρ) (λa=>Tv (rO a) Q):=tv_bnd
theorem tv_viewN{Q:List PV->Prop}:Tv (oY i ρ) Q=Tv (mVL i ρ) (λa=>Tv (rO a) Q):=tv_bnd
theorem tv_asLst{l:List PV}{Q:List PV->Prop}:Tv (rO (.lst l)) Q=Q l:=tv_some
theorem tv_nil{Q:List PV->Prop}:Tv (bH ρ) Q=Q []:=tv_some
theorem tv_cons{g:Fn (List PV)}{Q:List PV->Prop}:Tv (aL f g ρ) Q=Tv (f ρ) (λa=>Tv (g ρ) (λl=>Q (a::l))):=by
 unfold aL;simp only[tv_bnd,tv_some]
theorem b7{c:Prop}[Decidable c]{a:α}:Tv (if c then some (.ok a) else none) Q=(c/\Q a):=by
 by_cases h:c
 ·rw[Zal h,tv_some];simp[h]
 ·rw[Zak h,tQ];simp[h]
theorem tv_tup{f:Fn (List PV)}{Q:PV->Prop}:Tv (oE f ρ) Q=Tv (f ρ) (λl=>l.length<=sizeLine/\Q (.tup l)):=by
 unfold oE;simp only[tv_bnd,b7]
theorem tv_lst{f:Fn (List PV)}{Q:PV->Prop}:Tv (vy f ρ) Q=Tv (f ρ) (λl=>l.length<=sizeLine/\Q (.lst l)):=by
 unfold vy;simp only[tv_bnd,b7]
theorem tv_call{m:List PV->Option (Res PV)}{f:Fn (List PV)}{Q:PV->Prop}:Tv (bY m f ρ) Q=Tv (f ρ) (λl=>Tv (m l) Q):=tv_bnd
theorem tv_callL{m:List PV->Option (Res PV)}{f:Fn (List PV)}{Q:PV->Prop}:Tv (xx m f ρ) Q=Tv (f ρ) (λl=>Tv (m l) (λp=>p.flat=true/\Q p)):=by
 unfold xx;rw[tv_bnd];congr 1
 funext l
 refine propext ⟨?_,λ⟨p,e,hf,q⟩=>⟨p,by simp only[e,hf,Zb3],q⟩⟩
 rintro⟨r,e,q⟩;split at e
 ·rename_i p hp;split at e
  ·rename_i hf;cases e;exact⟨_,hp,hf,q⟩
  ·cases e
 ·cases e
theorem tv_ite{c:Prop}[Decidable c]{x y:Option (Res α)}:Tv (if c then x else y) Q=if c then Tv x Q else Tv y Q:=by split<;>rfl
theorem to_ite{c:Prop}[Decidable c]{x y:Option Out}:To (if c then x else y) QS=if c then To x QS else To y QS:=by split<;>rfl
theorem tv_mAnd{c d:Fn Bool}{Q:Bool->Prop}:Tv (M5 c d ρ) Q=Tv (c ρ) (λb=>if b=true then Tv (d ρ) Q else Q false):=by
 unfold M5;simp only[tv_bnd,tv_ite,tv_some]
theorem tv_mOr{c d:Fn Bool}{Q:Bool->Prop}:Tv (mOr c d ρ) Q=Tv (c ρ) (λb=>if b=true then Q true else Tv (d ρ) Q):=by
 unfold mOr;simp only[tv_bnd,tv_ite,tv_some]
theorem tv_mNot{c:Fn Bool}{Q:Bool->Prop}:Tv (BX c ρ) Q=Tv (c ρ) (λb=>Q (!b)):=by
 unfold BX;simp only[tv_bnd,tv_some]
theorem tv_comp{it:Fn (List PV)}{fr:List (Option Nat)}{tg:PV->Rho->Option Rho}{tst:Fn Bool}{el:Fn PV}{Q:PV->Prop}:Tv (lG it fr tg tst el ρ) Q=Tv (it ρ) (λl=>l.length<=sizeLine/\Tv (eZ tg tst el (frR fr ρ) l) (λr=>Q (.lst r))):=by
 unfold lG;rw[tv_bnd];congr 1;funext l
 by_cases hl:l.length<=sizeLine
 ·rw[Zal hl,tv_bnd];simp only[tv_some,hl,true_and]
 ·rw[Zak hl,tQ];simp[hl]
theorem to_next:To (ie ρ) QS=QS (.nx ρ):=to_nx
theorem to_ret:To (gU f ρ) QS=Tv (f ρ) (λp=>QS (.rt p)):=by unfold gU;simp only[to_bnd,to_rt]
theorem to_retO:To (vX f ρ) QS=Tv (f ρ) (λp=>QS (.ro p)):=by unfold vX;simp only[to_bnd,to_ro]
theorem to_setO:To (lR i f ρ) QS=Tv (f ρ) (λp=>QS (.nx (ρ.set i (some (.ow p))))):=by unfold lR;simp only[to_bnd,to_nx]
theorem to_asg{tg:PV->Rho->Option Rho}:To (cN f tg ρ) QS=Tv (f ρ) (λp=>∃ ρ',tg p ρ=some ρ'/\QS (.nx ρ')):=by
 unfold cN;rw[to_bnd];congr 1;funext a
 cases e:tg a ρ with
 |none=>rw[O1];exact propext ⟨λh=>h.elim,λ⟨_,z,_⟩=>nomatch z⟩
 |some ρ'=>rw[to_nx];exact propext ⟨λq=>⟨ρ',rfl,q⟩,λ⟨_,z,q⟩=>by cases z;exact q⟩
theorem to_asgN:To (cN f (gN i) ρ) QS=Tv (f ρ) (λp=>QS (.nx (ρ.set i (some (.sh p))))):=by
 rw[to_asg];congr 1;funext a
 exact propext ⟨λ⟨ρ',e,q⟩=>by cases e;exact q,λq=>⟨_,rfl,q⟩⟩
theorem to_if{c:Fn Bool}:To (j9 c s t ρ) QS=Tv (c ρ) (λb=>if b=true then To (s ρ) QS else To (t ρ) QS):=by
 unfold j9;simp only[to_bnd,to_ite]
theorem to_for{it:Fn (List PV)}{tg:PV->Rho->Option Rho}:To (kh it tg s ρ) QS=Tv (it ρ) (λl=>To (loop tg s l ρ) QS):=to_bnd
theorem to_retOw:To (lU i ρ) QS=∃ p,ρ[i]?=some (some (.ow p))/\QS (.ro p):=by
 refine propext ⟨?_,λ⟨p,e,q⟩=>⟨.ro p,by unfold lU ownAt;rw[e],trivial,q⟩⟩
 rintro⟨r,e,c,q⟩;unfold lU at e;split at e
 ·rename_i p hp;cases e;exact⟨p,dh hp,q⟩
 ·cases e
theorem to_app:To (sI i f ρ) QS=∃ l,ρ[i]?=some (some (.ow (.lst l)))/\Tv (f ρ) (λp=>l.length<sizeLine/\QS (.nx (ρ.set i (some (.ow (.lst (l++[p]))))))):=by
 refine propext ⟨?_,?_⟩
 ·rintro⟨r,e,c,q⟩;unfold sI at e;split at e
  ·rename_i l hl;refine⟨l,dh hl,?_⟩;rcases dC e with⟨z,e1,rfl⟩|⟨p,e1,e2⟩
   ·exact c.elim
   ·split at e2
    ·rename_i hlen;cases e2;exact⟨_,e1,hlen,q⟩
    ·cases e2
  ·cases e
 ·rintro⟨l,e,p,e1,h,q⟩;have eo:ownAt i ρ=some (.lst l):=by unfold ownAt;rw[e]
  unfold To sI;rw[eo];exact⟨.nx _,by simp only[e1,jE];exact Zal h,trivial,q⟩
theorem to_frz:To (Ri i s ρ) QS=To (s (BZ i ρ)) QS:=rfl
theorem Lf{p:PV}(h:ρ[i]?=some (some (.ow p))):BZ i ρ=ρ.set i (some (.sh p)):=by unfold BZ ownAt;rw[h]
theorem pC{c:Int->Int->Bool}{F:Int->Int->PV}{x y:Int}{Q:PV->Prop}:Tv (MP.opI c F (.int x) (.int y)) Q=(c x y=true/\Q (F x y)):=b7
theorem tv_or'{x y:Int}{Q:PV->Prop}:Tv (JH (.int x) (.int y)) Q=Q (.int (Builtin.bitOr x y)):=by unfold JH;rw[pC];simp[cT]
theorem tv_ge{x y:Int}{Q:PV->Prop}:Tv (Nf (.int x) (.int y)) Q=Q (.bl (decide (y<=x))):=by unfold Nf;rw[pC];simp[cT]
theorem tv_div{x y:Int}{Q:PV->Prop}:Tv (fM (.int x) (.int y)) Q=((0<y/\y<1073741824)/\Q (.int (x/y))):=by unfold fM;rw[pC];simp[Q5]
theorem tv_mod{x y:Int}{Q:PV->Prop}:Tv (dD (.int x) (.int y)) Q=(0<y/\Q (.int (x%y))):=by unfold dD;rw[pC];simp[Tn]
theorem tv_pow{x y:Int}{Q:PV->Prop}:Tv (pX (.int x) (.int y)) Q=((0<=y/\y<=1000000/\x.natAbs<2^64)/\Q (.int (x^y.toNat))):=by unfold pX;rw[pC];simp[JG]
theorem tv_shl{x y:Int}{Q:PV->Prop}:Tv (zm (.int x) (.int y)) Q=((0<=y/\y<=1000000/\x.natAbs<2^64)/\Q (.int (x*2^y.toNat))):=by unfold zm;rw[pC];simp[JG]
theorem tv_add{x y:Int}{Q:PV->Prop}:Tv (cA (.int x) (.int y)) Q=Q (.int (x+y)):=tv_some
theorem tv_addS{x y:Str}{Q:PV->Prop}:Tv (cA (.str x) (.str y)) Q=(x.length+y.length<=sizeLine/\Q (.str (x++y))):=b7
theorem tv_addT{x y:List PV}{Q:PV->Prop}:Tv (cA (.tup x) (.tup y)) Q=((x≠[]/\x.length+y.length<=sizeLine)/\Q (.tup (x++y))):=b7
theorem tv_mul{x y:Int}{Q:PV->Prop}:Tv (rP (.int x) (.int y)) Q=(Bu x y/\Q (.int (x*y))):=by
 show Tv (if JF x y=true then _ else none) Q=_
 rw[b7];unfold JF Bu;simp
theorem tv_mulS{z:Str}{n:Int}{Q:PV->Prop}:Tv (rP (.str z) (.int n)) Q=((-(2^63)<=n/\n<2^63/\z.length*n.toNat<=sizeLine)/\Q (.str (Q6 z n.toNat))):=b7
theorem tv_lt{x y:Int}{Q:PV->Prop}:Tv (Hj (.int x) (.int y)) Q=Q (.bl (decide (x<y))):=tv_some
theorem tv_ltS{x y:Str}{Q:PV->Prop}:Tv (Hj (.str x) (.str y)) Q=Q (.bl (decide (x.cps.toList<y.cps.toList))):=tv_some
theorem tv_eq{p q:PV}{Q:PV->Prop}:Tv (oU p q) Q=∃ r,eqF 32 p q=some r/\Q (.bl r):=by
 refine propext ⟨?_,λ⟨r,e,k⟩=>⟨_,by unfold oU;rw[e],k⟩⟩
 rintro⟨r,e,k⟩;unfold oU at e;split at e
 ·rename_i b hb;cases e;exact⟨b,hb,k⟩
 ·cases e
theorem tv_ne{p q:PV}{Q:PV->Prop}:Tv (vA p q) Q=∃ r,eqF 32 p q=some r/\Q (.bl (!r)):=by
 refine propext ⟨?_,λ⟨r,e,k⟩=>⟨_,by unfold vA;rw[e],k⟩⟩
 rintro⟨r,e,k⟩;unfold vA at e;split at e
 ·rename_i b hb;cases e;exact⟨b,hb,k⟩
 ·cases e
theorem eqF_int(n:Nat)(i j:Int):eqF n (.int i) (.int j)=some (decide (i=j)):=by cases n<;>rfl
theorem eqF_str(n:Nat)(i j:Str):eqF n (.str i) (.str j)=some (decide (i=j)):=by cases n<;>rfl
theorem eqF_bl(n:Nat)(i j:Bool):eqF n (.bl i) (.bl j)=some (decide (i=j)):=by cases n<;>rfl
theorem tv_eqI{x y:Int}{Q:PV->Prop}:Tv (oU (.int x) (.int y)) Q=Q (.bl (decide (x=y))):=by rw[tv_eq,eqF_int];simp
theorem tv_eqS{x y:Str}{Q:PV->Prop}:Tv (oU (.str x) (.str y)) Q=Q (.bl (decide (x=y))):=by rw[tv_eq,eqF_str];simp
theorem tv_neI{x y:Int}{Q:PV->Prop}:Tv (vA (.int x) (.int y)) Q=Q (.bl (!decide (x=y))):=by rw[tv_ne,eqF_int];simp
theorem tv_neS{x y:Str}{Q:PV->Prop}:Tv (vA (.str x) (.str y)) Q=Q (.bl (!decide (x=y))):=by rw[tv_ne,eqF_str];simp
theorem tv_in{p q:PV}{Q:PV->Prop}:Tv (Ci p q) Q=∃ r,inU p q=some r/\Q (.bl r):=by
 refine propext ⟨?_,λ⟨r,e,k⟩=>⟨_,by unfold Ci;rw[e],k⟩⟩
 rintro⟨r,e,k⟩;unfold Ci at e;split at e
 ·rename_i b hb;cases e;exact⟨b,hb,k⟩
 ·cases e
theorem tv_notin{p q:PV}{Q:PV->Prop}:Tv (nG p q) Q=∃ r,inU p q=some r/\Q (.bl (!r)):=by
 refine propext ⟨?_,λ⟨r,e,k⟩=>⟨_,by unfold nG;rw[e],k⟩⟩
 rintro⟨r,e,k⟩;unfold nG at e;split at e
 ·rename_i b hb;cases e;exact⟨b,hb,k⟩
 ·cases e
theorem De{x:Option PV}{Q:PV->Prop}:Tv (ofO x) Q=∃ p,x=some p/\Q p:=by
 refine propext ⟨?_,λ⟨p,e,k⟩=>⟨_,by subst e;rfl,k⟩⟩
 rintro⟨r,e,k⟩;obtain⟨p,e1,e2⟩:=sX e;cases e2;exact⟨_,e1,k⟩
theorem tv_ixL{l:List PV}{n:Int}{Q:PV->Prop}:Tv (fQ (.lst l) (.int n)) Q=∃ p,atI l n=some p/\Q p:=De
theorem tv_ixT{l:List PV}{n:Int}{Q:PV->Prop}:Tv (fQ (.tup l) (.int n)) Q=∃ p,atI l n=some p/\Q p:=De
theorem tv_ixS{z:Str}{n:Int}{Q:PV->Prop}:Tv (fQ (.str z) (.int n)) Q=(z.length<=sizeLine/\∃ c,atI z.cps.toList n=some c/\Q (.str ⟨#[c]⟩)):=by
 show Tv (if z.length<=sizeLine then _ else none) Q=_
 by_cases hz:z.length<=sizeLine
 ·rw[Zal hz,De];simp only[hz,true_and];refine propext ⟨?_,λ⟨c,e,k⟩=>⟨_,by rw[e];rfl,k⟩⟩
  rintro⟨p,e,k⟩;cases e1:atI z.cps.toList n with
  |none=>rw[e1] at e;cases e
  |some c=>rw[e1] at e;cases e;exact⟨c,rfl,k⟩
 ·rw[Zak hz];exact propext ⟨λ⟨r,e,q⟩=>(nomatch e),λ⟨z,_⟩=>absurd z hz⟩
theorem tv_lenS{z:Str}{Q:PV->Prop}:Tv (fj (.str z)) Q=(z.length<=sizeLine/\Q (.int z.length)):=b7
theorem tv_lenL{l:List PV}{Q:PV->Prop}:Tv (fj (.lst l)) Q=Q (.int l.length):=tv_some
theorem tv_lenT{l:List PV}{Q:PV->Prop}:Tv (fj (.tup l)) Q=Q (.int l.length):=tv_some
theorem tv_is{T:String}{Q:PV->Prop}:Tv (Ck p (.ty T)) Q=∃ b,isI p T=some b/\Q (.bl b):=by
 refine propext ⟨?_,λ⟨r,e,k⟩=>⟨_,by unfold Ck;simp only[e],k⟩⟩
 rintro⟨r,e,k⟩;unfold Ck at e;simp only at e;split at e
 ·rename_i b hb;cases e;exact⟨b,hb,k⟩
 ·cases e
theorem tv_asBl{b:Bool}{Q:Bool->Prop}:Tv (iD (.bl b)) Q=Q b:=tv_some
theorem tv_intI{x:Int}{Q:PV->Prop}:Tv (Ez (.int x)) Q=Q (.int x):=tv_some
theorem tv_intB{x:Bool}{Q:PV->Prop}:Tv (Ez (.bl x)) Q=Q (.int (if x then 1 else 0)):=tv_some
theorem tv_list{l:List PV}{Q:PV->Prop}:Tv (xK l) Q=Q (.lst l):=tv_some
theorem tv_opTup{l:List PV}{Q:PV->Prop}:Tv (JT l) Q=Q (.tup l):=tv_some
theorem tv_cat{l m:List PV}{Q:PV->Prop}:Tv (Eu l m) Q=(l.length+m.length<=sizeLine/\Q (.lst (l++m))):=b7
theorem tv_asSeqL{l:List PV}{Q:List PV->Prop}:Tv (jm (.lst l)) Q=Q l:=tv_some
theorem tv_asSeqT{l:List PV}{Q:List PV->Prop}:Tv (jm (.tup l)) Q=Q l:=tv_some
theorem tv_asSeqS{z:Str}{Q:List PV->Prop}:Tv (jm (.str z)) Q=Q (signs z):=tv_some
theorem tv_rng1{j:Int}{Q:List PV->Prop}:Tv (gV [.int j]) Q=((-(2^62)<=j/\j<2^62)/\Q (oV 0 j.toNat)):=b7
theorem tv_enum{l:List PV}{Q:List PV->Prop}:Tv (xJ [.lst l]) Q=Q (pY l):=tv_some
theorem tv_pn{Q:Option Int->Prop}:Tv (mPn ρ) Q=Q none:=tv_some
theorem tv_asInt{x:Int}{Q:Option Int->Prop}:Tv (asInt (.int x)) Q=Q (some x):=tv_some
theorem tv_opSlS{x:Str}{a b:Option Int}{Q:PV->Prop}:Tv (JL a b (.str x)) Q=(x.length<=sizeLine/\Q (.str (Txt.slice x a b))):=b7
theorem tv_slS{lo hi:Fn (Option Int)}{Q:PV->Prop}:Tv (JM f lo hi ρ) Q=Tv (f ρ) (λz=>Tv (lo ρ) (λa=>Tv (hi ρ) (λb=>Tv (JL a b z) Q))):=by
 unfold JM;simp only[tv_bnd]
end
section
variable{ρ:Rho}{j:Nat}
theorem finIO_nx{p:PV}:(TF j (some (.nx ρ))=some (.ok p))=(ρ[j]?=some (some (.ow p))):=by
 show((match ownAt j ρ with|some p=>some (Res.ok p)|none=>none)=some (.ok p))=_
 cases h:ownAt j ρ with
 |none=>exact propext ⟨λe=>(nomatch e),λe=>by unfold ownAt at h;rw[e] at h;cases h⟩
 |some q=>exact propext ⟨λe=>by cases e;exact dh h,λe=>by rw[dh h] at e;cases e;rfl⟩
end
def turn(I:Rho->Prop)(QS:Out->Prop):Out->Prop
 |.nx ρ=>I ρ
 |.ct ρ=>I ρ
 |.bk ρ=>QS (.nx ρ)
 |o=>QS o
theorem turn_nx{I:Rho->Prop}{QS:Out->Prop}{ρ:Rho}:turn I QS (.nx ρ)=I ρ:=rfl
theorem turn_ct{I:Rho->Prop}{QS:Out->Prop}{ρ:Rho}:turn I QS (.ct ρ)=I ρ:=rfl
theorem turn_bk{I:Rho->Prop}{QS:Out->Prop}{ρ:Rho}:turn I QS (.bk ρ)=QS (.nx ρ):=rfl
theorem turn_rt{I:Rho->Prop}{QS:Out->Prop}{p:PV}:turn I QS (.rt p)=QS (.rt p):=rfl
theorem turn_ro{I:Rho->Prop}{QS:Out->Prop}{p:PV}:turn I QS (.ro p)=QS (.ro p):=rfl
theorem turn_rd{I:Rho->Prop}{QS:Out->Prop}{p:PV}:turn I QS (.rd p)=QS (.rd p):=rfl
theorem FW{tg:PV->Rho->Option Rho}{body:Sn}{QS:Out->Prop}(I:Nat->Rho->Prop):∀ {l:List PV}{ρ:Rho},I 0 ρ ->
  (∀ (i:Nat) x ρ,l[i]?=some x->I i ρ->∃ ρ1,tg x ρ=some ρ1/\To (body ρ1) (turn (I (i+1)) QS)) ->
  (∀ ρ',I l.length ρ'->QS (.nx ρ'))->To (loop tg body l ρ) QS:=by
 intro l;induction l generalizing I with
 |nil=>exact λh0 _ hd=>⟨_,rfl,trivial,hd _ h0⟩
 |cons x xs ih=>
  intro ρ h0 hs hd;obtain⟨ρ1,e1,o,e2,c,q⟩:=hs 0 x ρ rfl h0;unfold To;rw[loop,e1];simp only[e2];cases o with
  |nx ρ2=>exact ih (λi=>I (i+1)) q (λi y ρ e=>hs (i+1) y ρ (by simpa using e)) hd
  |ct ρ2=>exact ih (λi=>I (i+1)) q (λi y ρ e=>hs (i+1) y ρ (by simpa using e)) hd
  |bk ρ2=>exact⟨_,rfl,trivial,q⟩
  |rt p=>exact⟨_,rfl,trivial,q⟩
  |ro p=>exact⟨_,rfl,trivial,q⟩
  |rd p=>exact⟨_,rfl,trivial,q⟩
  |ex z=>exact c.elim
theorem jr{x:Option Out}{I:Rho->Prop}{Q:Out->Prop}(h:∀ QS:Out->Prop,(∀ ρ,I ρ->QS (.nx ρ))->To x QS):To x (turn I Q):=h _ λ_ h=>h
theorem Ug{x:Option Out}{I:Rho->Prop}{Q:Out->Prop}(h:∀ QS:Out->Prop,(∀ ρ,I ρ->QS (.nx ρ))->(∀ ρ,I ρ->QS (.ct ρ))->(∀ p,Q (.rt p)->QS (.rt p))->(∀ p,Q (.ro p)->QS (.ro p))->(∀ p,Q (.rd p)->QS (.rd p))->To x QS):To x (turn I Q):=h _ (λ_ h=>h) (λ_ h=>h) (λ_ h=>h) (λ_ h=>h) λ_ h=>h
theorem mF{x:Option Out}{Q:Out->Prop}(h:∀ QS:Out->Prop,(∀ o,Q o->QS o)->To x QS):To x Q:=h _ λ_ h=>h
theorem cP{j:Nat}{body:Sn}{QS:Out->Prop}(I:Nat->Rho->Prop){l:List PV}{ρ:Rho}(h0:I 0 ρ)
  (hs:∀ (i:Nat) x ρ,l[i]?=some x->I i ρ->To (body (ρ.set j (some (.sh x)))) (turn (I (i+1)) QS))(hd:∀ ρ',I l.length ρ'->QS (.nx ρ')):To (loop (gN j) body l ρ) QS:=
 FW I h0 (λi x ρ e hI=>⟨_,rfl,hs i x ρ e hI⟩) hd
theorem Af{a b:Nat}{body:Sn}{QS:Out->Prop}(I:Nat->Rho->Prop){l:List PV}{ρ:Rho}(h0:I 0 ρ)
  (hs:∀ (i:Nat) x ρ,l[i]?=some x->I i ρ->To (body ((ρ.set a (some (.sh (.int i)))).set b (some (.sh x)))) (turn (I (i+1)) QS))(hd:∀ ρ',I l.length ρ'->QS (.nx ρ')):To (loop (gT 2 (gsCons (gN a) (gsCons (gN b) gsNil))) body (pY l) ρ) QS:=by
 have hl:(pY l).length=l.length:=by simp[pY]
 refine FW I h0 (λi x ρ e hI=>?_) λρ'=>by rw[hl];exact hd ρ'
 unfold pY at e;rw[List.getElem?_mapIdx] at e;cases h:l[i]? with
 |none=>rw[h] at e;cases e
 |some y=>
  rw[h] at e;cases e;exact⟨_,rfl,hs i y ρ h hI⟩
theorem mG{x:Option Out}{r:Res PV}(h:To x λo=>fin (some o)=some r):fin x=some r:=by
 obtain⟨o,e,_,q⟩:=h;rw[e];exact q
theorem tR{x:Option Out}{r:Res PV}(h:To x λo=>sJ (some o)=some r):sJ x=some r:=by
 obtain⟨o,e,_,q⟩:=h;rw[e];exact q
theorem mH{x:Option Out}{P:PV->Prop}(h:To x λo=>∃ p,fin (some o)=some (.ok p)/\P p):∃ p,fin x=some (.ok p)/\P p:=by
 obtain⟨o,e,_,q⟩:=h;rw[e];exact q
theorem FZ{x:Option Out}{P:PV->Prop}(h:To x λo=>∃ p,sJ (some o)=some (.ok p)/\P p):∃ p,sJ x=some (.ok p)/\P p:=by
 obtain⟨o,e,_,q⟩:=h;rw[e];exact q
theorem fin_nx{ρ:Rho}:fin (some (.nx ρ))=some (.ok .non):=rfl
theorem fin_rt{p:PV}:fin (some (.rt p))=some (.ok p):=rfl
theorem finO_ro{p:PV}:sJ (some (.ro p))=some (.ok p):=rfl
theorem tv_compN{tg:PV->Rho->Option Rho}{tst:Fn Bool}{el:Fn PV}{ρb:Rho}{Q:List PV->Prop}:Tv (eZ tg tst el ρb []) Q=Q []:=tv_some
theorem tv_compC{j:Nat}{tst:Fn Bool}{el:Fn PV}{ρb:Rho}{x:PV}{xs:List PV}{Q:List PV->Prop}:Tv (eZ (gN j) tst el ρb (x::xs)) Q =
  Tv (tst (ρb.set j (some (.sh x)))) (λb=>if b=true then Tv (el (ρb.set j (some (.sh x)))) (λp=>Tv (eZ (gN j) tst el ρb xs) (λr=>Q (p::r))) else Tv (eZ (gN j) tst el ρb xs) Q):=by
 rw[eZ];simp only[gN,tv_bnd,tv_ite,tv_some]
theorem tv_yes{ρ:Rho}{Q:Bool->Prop}:Tv (lX ρ) Q=Q true:=tv_some
theorem uN{α:Type}{x:Option (Res α)}{q:α}(h:Tv x λp=>p=q):x=some (.ok q):=by
 obtain⟨p,e,rfl⟩:=h;exact e
def szP(w h:Int):PV:=.tup [.int w,.int h]
def cellP(c:Int×Int):PV:=.tup [.int c.1,.int c.2]
theorem snocI(l:List Int)(a:Int):l.map PV.int++[PV.int a]=(l++[a]).map PV.int:=by rw[ZaM];rfl
theorem snocS(l:List Str)(a:Str):l.map PV.str++[PV.str a]=(l++[a]).map PV.str:=by rw[ZaM];rfl
theorem snocC(l:List (Int×Int))(a b:Int):l.map cellP++[PV.tup [.int a,.int b]]=(l++[(a,b)]).map cellP:=by rw[ZaM];rfl
theorem is_non_int:isI .non "int"=some false:=rfl
theorem is_non_bool:isI .non "bool"=some false:=rfl
theorem is_non_str:isI .non "str"=some false:=rfl
theorem is_non_list:isI .non "list"=some false:=rfl
theorem is_non_tuple:isI .non "tuple"=some false:=rfl
theorem is_non_dict:isI .non "dict"=some false:=rfl
theorem is_bl_int{b:Bool}:isI (.bl b) "int"=some true:=rfl
theorem is_bl_bool{b:Bool}:isI (.bl b) "bool"=some true:=rfl
theorem is_bl_str{b:Bool}:isI (.bl b) "str"=some false:=rfl
theorem is_bl_list{b:Bool}:isI (.bl b) "list"=some false:=rfl
theorem is_bl_tuple{b:Bool}:isI (.bl b) "tuple"=some false:=rfl
theorem is_bl_dict{b:Bool}:isI (.bl b) "dict"=some false:=rfl
theorem is_int_int{i:Int}:isI (.int i) "int"=some true:=rfl
theorem is_int_bool{i:Int}:isI (.int i) "bool"=some false:=rfl
theorem is_int_str{i:Int}:isI (.int i) "str"=some false:=rfl
theorem is_int_list{i:Int}:isI (.int i) "list"=some false:=rfl
theorem is_int_tuple{i:Int}:isI (.int i) "tuple"=some false:=rfl
theorem is_int_dict{i:Int}:isI (.int i) "dict"=some false:=rfl
theorem is_str_int{z:Str}:isI (.str z) "int"=some false:=rfl
theorem is_str_bool{z:Str}:isI (.str z) "bool"=some false:=rfl
theorem is_str_str{z:Str}:isI (.str z) "str"=some true:=rfl
theorem is_str_list{z:Str}:isI (.str z) "list"=some false:=rfl
theorem is_str_tuple{z:Str}:isI (.str z) "tuple"=some false:=rfl
theorem is_str_dict{z:Str}:isI (.str z) "dict"=some false:=rfl
theorem is_tup_int{l:List PV}:isI (.tup l) "int"=some false:=rfl
theorem is_tup_bool{l:List PV}:isI (.tup l) "bool"=some false:=rfl
theorem is_tup_str{l:List PV}:isI (.tup l) "str"=some false:=rfl
theorem is_tup_list{l:List PV}:isI (.tup l) "list"=some false:=rfl
theorem is_tup_tuple{l:List PV}:isI (.tup l) "tuple"=some true:=rfl
theorem is_tup_dict{l:List PV}:isI (.tup l) "dict"=some false:=rfl
theorem is_lst_int{l:List PV}:isI (.lst l) "int"=some false:=rfl
theorem is_lst_bool{l:List PV}:isI (.lst l) "bool"=some false:=rfl
theorem is_lst_str{l:List PV}:isI (.lst l) "str"=some false:=rfl
theorem is_lst_list{l:List PV}:isI (.lst l) "list"=some true:=rfl
theorem is_lst_tuple{l:List PV}:isI (.lst l) "tuple"=some false:=rfl
theorem is_lst_dict{l:List PV}:isI (.lst l) "dict"=some false:=rfl
theorem Ag{α:Type}{g:α->PV}[DecidableEq α](h:∀ a b,eqF 31 (g a) (g b)=some (decide (a=b)))(a:α):∀ l:List α,inF (g a) (l.map g)=some (decide (a∈l))
 |[]=>rfl
 |x::xs=>by
  rw[Zas,inF,h x a,Ag h a xs];simp only[Zay,Bool.decide_or];congr 2
  exact decide_eq_decide.mpr ⟨λe=>e.symm,λe=>e.symm⟩
theorem Ga{α:Type}{g:α->PV}[DecidableEq α](h:∀ a b,eqF 31 (g a) (g b)=some (decide (a=b)))(a:α)(l:List α)[Decidable (a∈l)]:inF (g a) (l.map g)=some (decide (a∈l)):=by
 rw[Ag h a l];congr 1
 exact decide_eq_decide.mpr Iff.rfl
theorem Gb{α β:Type}(f:α->β)(l:List α)(i:Int):atI (l.map f) i=(atI l i).map f:=by
 unfold atI;rw[List.length_map];cases ixN l.length i<;>simp
theorem HR{ns:List Int}{i:Int}(h0:0<=i)(h:i<ns.length):atI (ns.map PV.int) i=some (.int (ns.getD i.toNat 0)):=by
 obtain⟨v,e1,e2⟩:=pP (xs:=ns.map PV.int) h0 (by rw[List.length_map];exact h)
 rw[e1];rw[Zae] at e2;have hl:i.toNat<ns.length:=by lia
 rw[Zaa hl] at e2;rw[Zag,Zaa hl];exact e2.symm
theorem atI_0{p:PV}{l:List PV}:atI (p::l) 0=some p:=gB (j:=0) rfl
theorem atI_1{p q:PV}{l:List PV}:atI (p::q::l) 1=some q:=gB (j:=1) rfl
theorem atI_2{p q r:PV}{l:List PV}:atI (p::q::r::l) 2=some r:=gB (j:=2) rfl
theorem atI_3{p q r s:PV}{l:List PV}:atI (p::q::r::s::l) 3=some s:=gB (j:=3) rfl
def ofL(l:List Nat):Str:=⟨l.toArray⟩
theorem ql(l:List Nat):(ofL l).length=l.length:=List.size_toArray ..
theorem tv_newD{ρ:Rho}{Q:PV->Prop}:Tv (wu ρ) Q=Q (.dk []):=tv_some
theorem is_dk_int{l:List (Key×PV)}:isI (.dk l) "int"=some false:=rfl
theorem is_dk_str{l:List (Key×PV)}:isI (.dk l) "str"=some false:=rfl
section
variable{ρ:Rho}{f g h:Fn PV}{i:Nat}{Q:PV->Prop}{QS:Out->Prop}{d k x p:PV}{l:List PV}
theorem Lg:Tv (asD p) Q=(p.isD=true/\Q p):=b7
theorem tv_viewD:Tv (xN f ρ) Q=Tv (f ρ) (λp=>p.isD=true/\Q p):=by unfold xN;rw[tv_bnd];simp only[Lg]
theorem tv_viewDN:Tv (dX i ρ) Q=Tv (mVL i ρ) (λp=>p.isD=true/\Q p):=by unfold dX;rw[tv_bnd];simp only[Lg]
theorem Gd{α:Type}{o:Option α}{F:α->PV}:Tv (o.map λr=>Res.ok (F r)) Q=∃ r,o=some r/\Q (F r):=by
 cases o with
 |none=>exact propext ⟨(λ⟨_,e,_⟩=>by cases e),(λ⟨_,e,_⟩=>by cases e)⟩
 |some r=>exact propext ⟨λ⟨_,e,q⟩=>by cases e;exact⟨r,rfl,q⟩,λ⟨_,e,q⟩=>by cases e;exact⟨_,rfl,q⟩⟩
theorem tv_dget2:Tv (xO f g h ρ) Q=Tv (f ρ) (λd=>Tv (g ρ) (λk=>Tv (h ρ) (λx=>∃ r,lH d k=some r/\Q (r.getD x)))):=by
 unfold xO;simp only[tv_bnd,Gd]
theorem tv_opDGet:Tv (kE d k) Q=∃ p,lH d k=some (some p)/\Q p:=by
 unfold kE;split
 ·rename_i p h;rw[h,tv_some];exact propext ⟨λq=>⟨p,rfl,q⟩,λ⟨_,e,q⟩=>by cases e;exact q⟩
 ·rename_i h;rw[tQ];exact propext ⟨λz=>z.elim,λ⟨p,e,_⟩=>(h p e).elim⟩
theorem tv_opDNotIn:Tv (lZ k d) Q=∃ r,lH d k=some r/\Q (.bl (!r.isSome)):=by unfold lZ;rw[Gd]
theorem tv_opDLen{l:List (Key×PV)}:Tv (xR (.dk l)) Q=Q (.int l.length):=tv_some
theorem tv_dictP:Tv (nM d l) Q=∃ ps d',fH l=some ps/\dz d ps=some d'/\Q d':=by
 unfold nM;split
 ·rename_i ps h;rw[h];refine propext ⟨?_,?_⟩
  ·rintro⟨r,e,q⟩;cases h2:dz d ps with
   |none=>rw[h2] at e;cases e
   |some d'=>rw[h2] at e;cases e;exact⟨ps,_,rfl,h2,q⟩
  ·rintro⟨ps',d',e1,e2,q⟩;cases e1;exact⟨d',by rw[e2];rfl,q⟩
 ·rename_i h;rw[tQ];exact propext ⟨λz=>z.elim,λ⟨ps,_,e,_⟩=>by rw[h] at e;cases e⟩
theorem tv_dictT:Tv (xQ d (.tup l)) Q=∃ ps d',fH l=some ps/\dz d ps=some d'/\Q d':=tv_dictP
theorem to_dput:To (Fe i f g ρ) QS=Tv (f ρ) (λp=>∃ d,ρ[i]?=some (some (.ow d))/\Tv (g ρ) (λk=>∃ d',Cq d k p=some d'/\QS (.nx (ρ.set i (some (.ow d')))))):=by
 unfold Fe;rw[to_bnd];congr 1;funext p
 refine propext ⟨?_,?_⟩
 ·rintro⟨r,e,c,q⟩;split at e
  ·rename_i d hd;refine⟨d,dh hd,?_⟩;rcases dC e with⟨z,e1,rfl⟩|⟨k,e1,e2⟩
   ·exact c.elim
   ·split at e2
    ·rename_i d' h';cases e2;exact⟨k,e1,d',h',q⟩
    ·cases e2
  ·cases e
 ·rintro⟨d,e,k,e1,d',h1,q⟩;refine⟨.nx (ρ.set i (some (.ow d'))),?_,trivial,q⟩;have eo:ownAt i ρ=some d:=by unfold ownAt;rw[e]
  rw[eo];simp only[e1,M7,h1]
end
section
variable{l:List (Key×PV)}{t:List (List Key×PV)}{ks:List PV}{n:Int}{z:Str}{p:PV}
theorem dF_int:lH (.dk l) (.int n)=some (bZ l (.inl n)):=rfl
theorem dF_str:lH (.dk l) (.str z)=some (bZ l (.inr z)):=rfl
theorem dF_tup:lH (.dt t) (.tup ks)=(km ks).map (bZ t):=rfl
theorem Df:Cq (.dk l) (.str z) p=if l.length<sizeLine then some (.dk (jd l (.inr z) p)) else none:=rfl
theorem isD_dk:(PV.dk l).isD=true:=rfl
theorem isD_dt:(PV.dt t).isD=true:=rfl
end
section
variable{κ:Type}[DecidableEq κ]
theorem Ah(k j:κ)(p:PV):∀ l:List (κ×PV),bZ (jd l k p) j=if j=k then some p else bZ l j
 |[]=>by
  unfold jd bZ;by_cases h:k=j
  ·rw[Zal h,Zal h.symm]
  ·rw[Zak h,Zak (Zbs h)];rfl
 |(a,q)::l=>by
  have ih:=Ah k j p l;unfold jd;by_cases h:a=k
  ·rw[Zal h];subst h;unfold bZ;by_cases h2:a=j
   ·rw[Zal h2,Zal h2.symm]
   ·rw[Zak h2,Zak (Zbs h2),Zak h2];split
    ·rw[ih,Zak (Zbs h2)]
    ·rfl
  ·rw[Zak h];unfold bZ;by_cases h2:a=j
   ·rw[Zal h2,Zal h2,Zak (λz=>h (h2.trans z))]
   ·rw[Zak h2,Zak h2,ih]
theorem Ai(k:κ)(p:PV):∀ l:List (κ×PV),(jd l k p).length<=l.length+1
 |[]=>by simp[jd]
 |(a,q)::l=>by
  have ih:=Ai k p l;unfold jd;split
  ·split
   ·simp only[ZaN];lia
   ·simp only[ZaN];lia
  ·simp only[ZaN];lia
end
section
variable{f:Fn PV}{ρ:Rho}{QS:Out->Prop}{i:Nat}{p:PV}
theorem to_setD:To (zG i f ρ) QS=Tv (f ρ) (λp=>QS (.nx (ρ.set i (some (.dp p))))):=by unfold zG;simp only[to_bnd,to_nx]
theorem to_retDp:To (rD i ρ) QS=∃ p,ρ[i]?=some (some (.dp p))/\QS (.rd p):=by
 refine propext ⟨?_,λ⟨p,e,q⟩=>⟨.rd p,by unfold rD vB;rw[e],trivial,q⟩⟩
 rintro⟨r,e,c,q⟩;unfold rD at e;split at e
 ·rename_i p hp;cases e;exact⟨p,gF hp,q⟩
 ·cases e
theorem finT_rd:J4 (some (.rd p))=some (.ok p):=rfl
theorem O2{x:Option Out}{r:Res PV}(h:To x λo=>J4 (some o)=some r):J4 x=some r:=by
 obtain⟨o,e,_,q⟩:=h;rw[e];exact q
end
section
variable{ρ:Rho}{Q:PV->Prop}{QS:Out->Prop}{i:Nat}{s:Sn}{p:PV}
theorem tv_dkeys{l:List (Key×PV)}{Q:List PV->Prop}:Tv (xV (.dk l)) Q=Q (ut l):=tv_some
theorem tv_ditems{l:List (Key×PV)}{Q:List PV->Prop}:Tv (uv (.dk l)) Q=Q (fV l):=tv_some
def Ge(QS:Out->Prop):Out->Prop
 |.rd _=>False
 |o=>QS o
theorem holdQ_nx:Ge QS (.nx ρ)=QS (.nx ρ):=rfl
theorem holdQ_rt:Ge QS (.rt p)=QS (.rt p):=rfl
theorem holdQ_ro:Ge QS (.ro p)=QS (.ro p):=rfl
theorem to_hold:To (ur i s ρ) QS=∃ p,ρ[i]?=some (some (.sh p))/\p.isD=true/\To (s ρ) (Ge QS):=by
 refine propext ⟨?_,λ⟨p,e,d,o,e2,c,q⟩=>⟨o,?_,c,?_⟩⟩
 ·rintro⟨o,e,c,q⟩;unfold ur at e;split at e
  ·rename_i p hp;split at e
   ·rename_i d;refine⟨p,hp,d,o,?_⟩;split at e
    ·cases e
    ·rename_i x hx;refine⟨e,c,?_⟩;cases o with
     |rd y=>exact(hx y e).elim
     |_=>exact q
   ·cases e
  ·cases e
 ·unfold ur;rw[e];simp only;rw[Zal d,e2];cases o with
  |rd y=>exact q.elim
  |_=>rfl
 ·cases o with
  |rd y=>exact q.elim
  |_=>exact q
theorem to_frzD:To (uw i s ρ) QS=∃ p,ρ[i]?=some (some (.dp p))/\To (s (ρ.set i (some (.sh p)))) QS:=by
 refine propext ⟨?_,λ⟨p,e,r,e2,q⟩=>⟨r,by unfold uw vB;rw[e];exact e2,q⟩⟩
 rintro⟨r,e,q⟩;unfold uw at e;split at e
 ·rename_i p hp;exact⟨p,gF hp,r,e,q⟩
 ·cases e
theorem tv_abs{x:Int}:Tv (EY (.int x)) Q=Q (.int (if x<0 then -x else x)):=tv_some
theorem tv_mulL{x y:Int}:Tv (pg (.int x) (.int y)) Q=((x.natAbs<2^9000/\y.natAbs<2^9000)/\Q (.int (x*y))):=by unfold pg;rw[pC];simp[Qp]
end
theorem Gf{f:Fn PV}{ρ:Rho}{Q:PV->Prop}:Tv (zL f ρ) Q=Tv (f ρ) (λp=>p.xY=true/\Q p):=by
 unfold zL;rw[tv_bnd];congr 1;funext p
 refine propext ⟨?_,λ⟨c,q⟩=>⟨p,Zal c,q⟩⟩;rintro⟨r,e,q⟩;split at e
 ·rename_i c;cases e;exact⟨c,q⟩
 ·cases e
def pD:Sn:=
 (gU (m2 cA (m2 rP (m2 fQ (mV 1) (mC (.int 1))) (m2 fQ (mV 0) (mC (.int 0)))) (m2 fQ (mV 1) (mC (.int 0)))))
def kZ:List PV->Option (Res PV)
 |[a0,a1]=>fin (pD (startR [a0,a1] 0))
 |_=>none
def uO:Sn:=
 (cN (m2 JH (mV 2) (m2 zm (mC (.int 1)) (bY kZ (aL (mV 0) (aL (mV 3) bH))))) (gN 2))
def uP:Sn:=
 (gU (mV 2))
def uQ:Sn:=
 (bK (cN (mC (.int 0)) (gN 2))
   (bK (kh (m1 jm (mV 1)) (gN 3)
    uO)
   uP))
def qm:List PV->Option (Res PV)
 |[a0,a1]=>fin (uQ (startR [a0,a1] 2))
 |_=>none
def nZ:Sn:=
 (gU (oE (aL (m1 fj (m2 fQ (mV 0) (mC (.int 0)))) (aL (m1 fj (mVL 0)) bH))))
def n6:List PV->Option (Res PV)
 |[a0]=>fin (nZ (startR [a0] 0))
 |_=>none
def iu:Sn:=
 (jH 1 (mV 5) (oE (aL (mV 4) (aL (mV 2) bH))))
def iw:Sn:=
 (kh (m1 xJ (aL (mV 3) bH)) (gT 2 (gsCons (gN 4) (gsCons (gN 5) gsNil)))
     iu)
def iy:Sn:=
 (rD 1)
def dY:Sn:=
 (bK (zG 1 (zL wu))
   (bK (kh (m1 xJ (aL (mV 0) bH)) (gT 2 (gsCons (gN 2) (gsCons (gN 3) gsNil)))
    iw)
   iy))
def dZ:List PV->Option (Res PV)
 |[a0]=>J4 (dY (startR [a0] 5))
 |_=>none
def eQ:Sn:=
 (bK (cN (bY n6 (aL (mV 0) bH)) (gN 1))
   (vX (m1 (nM (.dk [])) (Fb (lG (m1 uv (bY dZ (aL (mV 0) bH))) [none,none,some 1] (gT 2 (gsCons (gN 0) (gsCons (gN 1) gsNil))) lX (oE (aL (mV 0) (aL (bY qm (aL (mV 2) (aL (mV 1) bH))) bH))))))))
def eU:List PV->Option (Res PV)
 |[a0]=>sJ (eQ (startR [a0] 1))
 |_=>none
def qp:Sn:=
 (cN (m2 JH (mV 3) (m2 kE (dX 0) (mV 4))) (gN 3))
def qt:Sn:=
 (j9 (m1 iD (m2 Ci (mVL 2) (m2 kE (dX 1) (mV 4))))
     qp
     ie)
def qu:Sn:=
 (gU (mV 3))
def lg:Sn:=
 (bK (cN (mC (.int 0)) (gN 3))
   (bK (ur 0 (kh (m1 xV (mV 0)) (gN 4)
    qt))
   qu))
def lq:List PV->Option (Res PV)
 |[a0,a1,a2]=>fin (lg (startR [a0,a1,a2] 2))
 |_=>none
def jt:Sn:=
 (bK (cN (bY eU (aL (mV 1) bH)) (gN 3))
   (vX (lG (m1 gV (aL (m1 fj (m2 fQ (mV 0) (mC (.int 1)))) bH)) [none,some 3,some 2] (gN 0) lX (bY lq (aL (mV 1) (aL (mV 2) (aL (mV 0) bH)))))))
def gO:List PV->Option (Res PV)
 |[a0,a1,a2]=>sJ (jt (startR [a0,a1,a2] 1))
 |_=>none
def jL:Sn:=
 (gU (m2 fQ (mV 0) (mV 1)))
def jM:Sn:=
 (gU (mC (.int 0)))
def jg:Sn:=
 (bK (j9 (m1 iD (m2 Hj (mV 1) (m1 fj (mVL 0))))
    jL
    ie)
   jM)
def bD:List PV->Option (Res PV)
 |[a0,a1]=>fin (jg (startR [a0,a1] 0))
 |_=>none
def iM:Sn:=
 (gU (m2 dD (m2 pg (m2 cA (m2 cA (m2 dD (mV 0) (m2 pX (mC (.int 10)) (mC (.int 30)))) (m2 pg (mV 1) (mV 1))) (mC (.int 1))) (mC (.int 314159265358979323846264338327))) (m2 cA (m2 pX (mC (.int 10)) (mC (.int 30))) (mC (.int 57)))))
def cQ:List PV->Option (Res PV)
 |[a0,a1]=>fin (iM (startR [a0,a1] 0))
 |_=>none
def gY:Sn:=
 (gU (mV 3))
def gZ:Sn:=
 (gU (bY cQ (aL (bY cQ (aL (mV 3) (aL (mV 2) bH))) (aL (m2 cA (mV 2) (mC (.int 1))) bH))))
def dJ:Sn:=
 (bK (cN (m1 EY (bY bD (aL (mV 0) (aL (mV 1) bH)))) (gN 3))
   (bK (j9 (m1 iD (m2 Nf (mV 3) (m2 pX (mC (.int 10)) (mC (.int 18)))))
    gY
    ie)
   gZ))
def bF:List PV->Option (Res PV)
 |[a0,a1,a2]=>fin (dJ (startR [a0,a1,a2] 1))
 |_=>none
def ju:Sn:=
 (gU (m2 cA (m2 cA (JM (mC (.str "mm")) mPn (m1 asInt (mV 0))) (m2 fQ (mC (.str "qwertyuiopasdfghjklzxcvbn")) (m2 dD (mV 1) (mC (.int 25))))) (JM (mC (.str "mm")) (m1 asInt (mV 0)) mPn)))
def d8:List PV->Option (Res PV)
 |[a0,a1]=>fin (ju (startR [a0,a1] 0))
 |_=>none
def mJ:Sn:=
 (sI 2 (oE (aL (mV 5) (aL (m2 fQ (mV 1) (m2 dD (m2 fM (mV 3) (mC (.int 97))) (m1 fj (mVL 1)))) bH))))
def jh:Sn:=
 (cN (m2 fM (mV 3) (mC (.int 9409))) (gN 3))
def mK:Sn:=
 (bK (cN (m2 fQ (mV 1) (m2 dD (mV 3) (m1 fj (mVL 1)))) (gN 5))
    (bK (j9 (m1 iD (m2 nG (mVL 5) (lG (oY 2) [none] (gN 0) lX (m2 fQ (mV 0) (mC (.int 0))))))
     mJ
     ie)
    jh))
def mL:Sn:=
 (gU (m1 JT (oY 2)))
def iQ:Sn:=
 (bK (lR 2 (vy bH))
   (bK (cN (m2 fM (mV 0) (mC (.int 1000))) (gN 3))
   (bK (kh (m1 gV (aL (m2 cA (mC (.int 1)) (m2 dD (mV 0) (mC (.int 8)))) bH)) (gN 4)
    mK)
   mL)))
def fW:List PV->Option (Res PV)
 |[a0,a1]=>fin (iQ (startR [a0,a1] 4))
 |_=>none
def mO:Sn:=
 (sI 4 (oE (aL (mC (.str "cover")) (aL (mV 7) (aL (m2 fQ (mV 3) (m2 dD (m2 fM (mV 6) (mC (.int 10))) (m1 fj (mVL 3)))) bH)))))
def mQ:Sn:=
 (sI 4 (oE (aL (mC (.str "glaze")) (aL (mV 7) (aL (bY fW (aL (m2 fM (mV 6) (mC (.int 10))) (aL (mV 3) bH))) bH)))))
def mR:Sn:=
 (bK (cN (bY bF (aL (mV 0) (aL (m2 cA (mC (.int 2)) (mV 5)) (aL (m2 cA (mC (.int 2)) (mV 5)) bH)))) (gN 6))
    (bK (cN (bY d8 (aL (m2 dD (m2 cA (mV 2) (mC (.int 1))) (mC (.int 3))) (aL (m2 cA (m2 fM (mV 1) (mC (.int 7))) (m2 rP (mC (.int 11)) (mV 5))) bH))) (gN 7))
    (j9 (m1 iD (m2 Hj (m2 dD (mV 6) (mC (.int 5))) (mC (.int 2))))
     mO
     mQ)))
def mU:Sn:=
 (Ri 4 (gU (oE (aL (oE (aL (m2 fQ (mV 3) (m2 dD (m2 fM (mV 1) (mC (.int 1000))) (m1 fj (mVL 3)))) (aL (mV 4) bH))) (aL (mV 3) bH)))))
def iR:Sn:=
 (bK (cN (m2 fM (bY bF (aL (mV 0) (aL (mC (.int 0)) (aL (mC (.int 0)) bH)))) (mC (.int 2))) (gN 1))
   (bK (cN (m2 dD (mV 1) (mC (.int 3))) (gN 2))
   (bK (cN (lG (m1 gV (aL (m2 cA (mC (.int 3)) (m2 dD (m2 fM (mV 1) (mC (.int 100))) (mC (.int 4)))) bH)) [none,some 2,some 1] (gN 0) lX (bY d8 (aL (mV 1) (aL (m2 cA (m2 fM (mV 2) (mC (.int 3))) (m2 rP (mC (.int 7)) (mV 0))) bH)))) (gN 3))
   (bK (lR 4 (vy bH))
   (bK (kh (m1 gV (aL (m2 cA (mC (.int 1)) (m2 dD (bY bD (aL (mV 0) (aL (mC (.int 1)) bH))) (mC (.int 8)))) bH)) (gN 5)
    mR)
   mU)))))
def eV:List PV->Option (Res PV)
 |[a0]=>fin (iR (startR [a0] 7))
 |_=>none
def mW:Sn:=
 (cN (mV 6) (gN 2))
def mX:Sn:=
 (cN (xO (xN (m1 (xQ (.dk [])) (mV 6))) (mV 2) (mV 2)) (gN 2))
def mY:Sn:=
 (bK (cN (m2 fQ (m2 fQ (mV 0) (mC (.int 1))) (mV 3)) (gT 3 (gsCons (gN 4) (gsCons (gN 5) (gsCons (gN 6) gsNil)))))
    (j9 (m1 iD (m2 oU (mVL 4) (mC (.str "cover"))))
     mW
     mX))
def mZ:Sn:=
 (gU (mV 2))
def iT:Sn:=
 (bK (cN (m2 fQ (mV 0) (mC (.int 0))) (gN 2))
   (bK (kh (m1 jm (mV 1)) (gN 3)
    mY)
   mZ))
def eX:List PV->Option (Res PV)
 |[a0,a1]=>fin (iT (startR [a0,a1] 5))
 |_=>none
def iU:Sn:=
 (gU (oE (aL (m1 fj (mVL 0)) (aL (mV 0) bH))))
def iV:List PV->Option (Res PV)
 |[a0]=>fin (iU (startR [a0] 0))
 |_=>none
def qw:Sn:=
 (cN (m2 Eu (oY 1) (Fb (lG (m1 jm (mV 1)) [none,some 2] (gN 0) lX (m2 CV (mV 0) (oE (aL (mV 1) bH)))))) (gN 1))
def qx:Sn:=
 (vX (m1 (kY iV) (oY 1)))
def lr:Sn:=
 (bK (cN (vy (aL (oE bH) bH)) (gN 1))
   (bK (kh (m1 gV (aL (mV 0) bH)) (gN 2)
    qw)
   qx))
def gn:List PV->Option (Res PV)
 |[a0]=>sJ (lr (startR [a0] 2))
 |_=>none
def oH:Sn:=
 (gU (oE (aL (m2 cA (mC (.int 1)) (m2 dD (m2 fM (mV 0) (mC (.int 9))) (mC (.int 24)))) (aL (m2 cA (mC (.int 1)) (m2 dD (m2 fM (mV 0) (mC (.int 300))) (mC (.int 24)))) bH))))
def oJ:Sn:=
 (gU (oE (aL (m2 cA (mC (.int 1)) (m2 dD (m2 fM (mV 0) (mC (.int 9))) (mC (.int 6)))) (aL (m2 cA (mC (.int 1)) (m2 dD (m2 fM (mV 0) (mC (.int 70))) (mC (.int 5)))) bH))))
def jw:Sn:=
 (bK (j9 (m1 iD (m2 oU (m2 dD (mV 0) (mC (.int 9))) (mC (.int 5))))
    oH
    ie)
   oJ)
def gP:List PV->Option (Res PV)
 |[a0]=>fin (jw (startR [a0] 0))
 |_=>none
def jN:Sn:=
 (bK (cN (mC (.int 1)) (gN 6))
      (cN (bY cQ (aL (mV 8) (aL (mV 10) bH))) (gN 5)))
def jO:Sn:=
 (cN (m2 cA (m2 dD (m2 pg (mV 5) (mC (.int 48271))) (m2 cA (m2 pX (mC (.int 10)) (mC (.int 30))) (mC (.int 57)))) (mC (.int 1))) (gN 5))
def jP:Sn:=
 (cN (m2 fM (mV 5) (m1 fj (mVL 2))) (gN 5))
def gq:Sn:=
 (bK (sI 9 (m2 fQ (mV 2) (m2 dD (m2 fM (mV 5) (m2 cA (mC (.int 1)) (m2 pg (mC (.int 999)) (mV 6)))) (m1 fj (mVL 2)))))
     (j9 (m1 iD (m2 oU (mVL 6) (mC (.int 0))))
      jP
      ie))
def gr:Sn:=
 (bK (j9 (m1 iD (m2 oU (mVL 6) (mC (.int 1))))
      jO
      ie)
     gq)
def jQ:Sn:=
 (bK (j9 (M5 (m1 iD (m2 oU (mVL 6) (mC (.int 0)))) (m1 iD (m2 oU (mVL 5) (mC (.int 0)))))
      jN
      ie)
     gr)
def jR:Sn:=
 (Ri 9 (sI 7 (mV 9)))
def jT:Sn:=
 (bK (lR 9 (vy bH))
    (bK (kh (m1 gV (aL (mV 3) bH)) (gN 10)
     jQ)
    jR))
def jU:Sn:=
 (lU 7)
def fX:Sn:=
 (bK (cN (bY gP (aL (m2 dD (bY bD (aL (mV 0) (aL (mV 1) bH))) (m2 pX (mC (.int 10)) (mC (.int 9)))) bH)) (gT 2 (gsCons (gN 3) (gsCons (gN 4) gsNil))))
   (bK (cN (bY bF (aL (mV 0) (aL (m2 cA (mV 1) (mC (.int 1))) (aL (mV 1) bH)))) (gN 5))
   (bK (cN (m1 Ez (m2 Hj (m1 EY (bY bD (aL (mV 0) (aL (m2 cA (mV 1) (mC (.int 1))) bH)))) (m2 pX (mC (.int 10)) (mC (.int 18))))) (gN 6))
   (bK (lR 7 (vy bH))
   (bK (kh (m1 gV (aL (mV 4) bH)) (gN 8)
    jT)
   jU)))))
def d9:List PV->Option (Res PV)
 |[a0,a1,a2]=>sJ (fX (startR [a0,a1,a2] 8))
 |_=>none
def jV:Sn:=
 (jH 3 (bY eX (aL (mV 1) (aL (mV 4) bH))) (mV 4))
def jW:Sn:=
 (bK (cN (bY bF (aL (mV 0) (aL (m2 cA (mC (.int 13)) (m1 xR (dX 5))) (aL (m2 cA (mC (.int 20)) (m1 xR (dX 5))) bH)))) (gN 8))
      (bK (cN (m2 kE (dX 3) (mV 7)) (gN 9))
      (Fe 5 (m2 fQ (mV 9) (m2 dD (mV 8) (m1 fj (mVL 9)))) (mV 7))))
def jX:Sn:=
 (j9 (m1 iD (m2 lZ (mV 7) (dX 5)))
      jW
      ie)
def jY:Sn:=
 (kh (m1 jm (mV 6)) (gN 7)
     jX)
def jZ:Sn:=
 (lU 5)
def j0:Sn:=
 (bK (uw 3 (lR 5 wu))
   (bK (kh (m1 jm (mV 2)) (gN 6)
    jY)
   jZ))
def fY:Sn:=
 (bK (zG 3 (zL wu))
   (bK (kh (m1 jm (bY gn (aL (m1 fj (m2 fQ (mV 1) (mC (.int 1)))) bH))) (gN 4)
    jV)
   j0))
def eE:List PV->Option (Res PV)
 |[a0,a1,a2]=>sJ (fY (startR [a0,a1,a2] 7))
 |_=>none
def qy:Sn:=
 (cN (m2 cA (mV 6) (m2 zm (mC (.int 1)) (m2 cA (m2 rP (mV 7) (mV 3)) (mV 8)))) (gN 6))
def qz:Sn:=
 (j9 (m1 iD (m2 Ci (mVL 5) (m2 kE (dX 2) (m2 fQ (m2 fQ (mV 1) (mV 7)) (mV 8)))))
       qy
       ie)
def qC:Sn:=
 (kh (m1 gV (aL (mV 3) bH)) (gN 8)
      qz)
def qD:Sn:=
 (sI 4 (mV 6))
def qF:Sn:=
 (bK (cN (mC (.int 0)) (gN 6))
    (bK (kh (m1 gV (aL (m1 fj (mVL 1)) bH)) (gN 7)
     qC)
    qD))
def qG:Sn:=
 (lU 4)
def lu:Sn:=
 (bK (cN (m1 fj (m2 fQ (mV 1) (mC (.int 0)))) (gN 3))
   (bK (lR 4 (vy bH))
   (bK (kh (m1 gV (aL (m1 fj (m2 fQ (mV 0) (mC (.int 1)))) bH)) (gN 5)
    qF)
   qG)))
def lw:List PV->Option (Res PV)
 |[a0,a1,a2]=>sJ (lu (startR [a0,a1,a2] 6))
 |_=>none
def uR:Sn:=
 (gU (mC (.bl false)))
def m7:Sn:=
 (gU (m2 oU (lG (m1 jm (mV 0)) [none] (gN 0) (mOr (BX (m1 iD (m2 Ck (mVL 0) (mC (.ty "int"))))) (m1 iD (m2 Ck (mVL 0) (mC (.ty "bool"))))) (mV 0)) (vy bH)))
def iW:Sn:=
 (bK (j9 (mOr (BX (m1 iD (m2 Ck (mVL 0) (mC (.ty "list"))))) (m1 iD (m2 vA (mVL 0) (mVL 1))))
    uR
    ie)
   m7)
def fZ:List PV->Option (Res PV)
 |[a0,a1]=>fin (iW (startR [a0,a1] 0))
 |_=>none
def O3:Sn:=
 (gU (mC (.bl false)))
def O4:Sn:=
 (gU (mC (.bl false)))
def O5:Sn:=
 (gU (mC (.bl false)))
def Gg:Sn:=
 (gU (m2 oU (mVL 1) (m2 fQ (bY eV (aL (mV 0) bH)) (mC (.int 0)))))
def Gh:Sn:=
 (bK (j9 (mOr (m1 iD (m2 vA (mVL 8) (mVL 4))) (m1 iD (m2 vA (m1 mD (dX 7)) (m1 mD (dX 5)))))
    O5
    ie)
   Gg)
def Gi:Sn:=
 (bK (sI 9 (mC (.int 0)))
   (bK (j9 (BX (m1 iD (bY fZ (aL (bY gO (aL (mV 1) (aL (mV 8) (aL (mV 7) bH)))) (aL (mV 6) bH)))))
    O4
    ie)
   Gh))
def Gj:Sn:=
 (bK (cN (bY eV (aL (mV 0) bH)) (gT 2 (gsCons (gN 1) (gsCons (gN 2) gsNil))))
   (bK (cN (m1 jf (Fb (lG (m1 jm (bY gn (aL (m1 fj (m2 fQ (mV 1) (mC (.int 1)))) bH))) [none,some 1] (gN 0) lX (bY eX (aL (mV 1) (aL (mV 0) bH)))))) (gN 3))
   (bK (cN (bY d9 (aL (mV 0) (aL (mC (.int 11)) (aL (mV 3) bH)))) (gN 4))
   (bK (cN (bY eE (aL (mV 0) (aL (mV 1) (aL (mV 4) bH)))) (gN 5))
   (bK (cN (bY lw (aL (mV 1) (aL (mV 4) (aL (mV 5) bH)))) (gN 6))
   (bK (cN (m1 yr (dX 5)) (gN 7))
   (bK (cN (lG (m1 jm (mV 4)) [none] (gN 0) lX (m1 xK (oY 0))) (gN 8))
   (bK (lR 9 (bY gO (aL (mV 1) (aL (mV 8) (aL (mV 7) bH)))))
   (bK (j9 (BX (m1 iD (xx fZ (aL (mVL 9) (aL (mVL 6) bH)))))
    O3
    ie)
   Gi)))))))))
def wQ:List PV->Option (Res PV)
 |[a0]=>fin (Gj (startR [a0] 9))
 |_=>none
local macro_rules|`(tactic| walk_at "rd")=>do
 let ids:=("onNx_nx onNx_rt onNx_ro onNx_rd onNx_bk onNx_ct tv_some to_nx to_rt to_ro to_rd to_bk to_ct tv_ite to_ite turn_nx turn_ct turn_bk turn_rt turn_ro turn_rd tv_bnd to_bnd to_seq tv_m2 tv_m1 tv_var tv_lend tv_c tv_view tv_viewN tv_asLst tv_nil tv_cons tv_tup tv_lst tv_call tv_callL tv_mAnd tv_mOr tv_mNot tv_comp tv_compN tv_compC tv_yes to_next to_ret to_retO to_hold to_frzD holdQ_nx holdQ_rt holdQ_ro tv_dkeys tv_ditems to_setO to_setD to_retDp to_asgN to_asg to_if to_for to_retOw to_app to_frz tv_newD tv_viewD tv_viewDN tv_dget2 tv_opDGet tv_opDNotIn tv_opDLen tv_dictP tv_dictT tv_mulL tv_abs to_dput dF_int dF_str dF_tup isD_dk isD_dt is_dk_int is_dk_str finIO_nx tv_or' tv_ge tv_div tv_mod tv_pow tv_shl tv_add tv_addS tv_addT tv_mul tv_mulS tv_lt tv_ltS tv_eqI tv_eqS tv_neI tv_neS tv_eq tv_ne tv_in tv_notin tv_ixL tv_ixT tv_ixS tv_lenS tv_lenL tv_lenT tv_is tv_asBl tv_intI tv_intB tv_list tv_opTup tv_cat tv_asSeqL tv_asSeqT tv_asSeqS tv_rng1 tv_enum tv_pn tv_asInt tv_slS tv_opSlS startR fin_nx fin_rt finO_ro finT_rd gN gT gsCons gsNil szP cellP List.map_cons List.map_nil List.replicate_succ List.replicate_zero List.cons_append List.nil_append List.append_nil List.getElem?_cons_zero List.getElem?_cons_succ List.set_cons_zero List.set_cons_succ List.length_cons List.length_nil Nat.zero_le true_and and_true Option.some.injEq Sl.sh.injEq Sl.ow.injEq Sl.dp.injEq Res.ok.injEq PV.int.injEq PV.str.injEq PV.bl.injEq PV.lst.injEq PV.tup.injEq exists_eq_left' exists_eq_left exists_eq and_assoc exists_and_left if_true if_false not_true_eq_false not_false_eq_true Bool.false_eq_true Bool.not_true Bool.not_false decide_eq_true_eq Bool.not_eq_true' decide_eq_false_iff_not reduceCtorEq is_non_int is_non_bool is_non_str is_non_list is_non_tuple is_non_dict is_bl_int is_bl_bool is_bl_str is_bl_list is_bl_tuple is_bl_dict is_int_int is_int_bool is_int_str is_int_list is_int_tuple is_int_dict is_str_int is_str_bool is_str_str is_str_list is_str_tuple is_str_dict is_tup_int is_tup_bool is_tup_str is_tup_list is_tup_tuple is_tup_dict is_lst_int is_lst_bool is_lst_str is_lst_list is_lst_tuple is_lst_dict Int.reduceAdd Int.reduceSub Int.reduceMul Int.reduceNeg Int.reduceToNat atI_0 atI_1 atI_2 atI_3 snocI snocS snocC eqF_int eqF_str eqF_bl frR shOnly".splitOn " ").toArray.map λs=>Lean.mkIdent s.toName
 `(tactic| simp(maxSteps:=2000000) only[$[$ids:ident],*])
theorem lz(ns:List Int)(i:Int)(i0:0<=i):∃ n:Int,bD [.lst (ns.map .int),.int i]=some (.ok (.int n)):=by
 suffices h:∃ p,bD [.lst (ns.map .int),.int i]=some (.ok p)/\∃ n,p=.int n by
  obtain⟨p,e,n,rfl⟩:=h;exact⟨n,e⟩
 refine mH ?_;unfold jg;walk_at "rd"
 refine t7 (λh=>?_) (λh=>?_)
 ·unfold jL;walk_at "rd"
  exact⟨_,HR i0 (by rw[List.length_map] at h;exact h),_,rfl⟩
 ·unfold jM;walk_at "rd"
  exact⟨_,rfl⟩
structure Sz(w h:Int):Prop where
 w0:1<=w
 w1:w<=24
 h0:1<=h
 h1:h<=24
theorem Sz.mul{w h:Int}(s:Sz w h):1<=w*h/\w*h<=576:=by
 obtain⟨a,b,c,d⟩:=s;have e1:1*1<=w*h:=Int.mul_le_mul a c (by decide) (by lia)
 have e2:w*h<=24*24:=Int.mul_le_mul b d (by lia) (by decide)
 lia
theorem Sz.at{w h c r:Int}(_:Sz w h)(c0:0<=c)(c1:c<w)(r0:0<=r)(r1:r<h):0<=r*w+c/\r*w+c<w*h:=by
 have e1:0<=r*w:=Int.mul_nonneg r0 (by lia)
 have e2:(r+1)*w<=h*w:=Int.mul_le_mul_of_nonneg_right (by lia) (by lia)
 rw[Int.add_mul,Int.one_mul] at e2;rw[Int.mul_comm w h];lia
structure Cell(w h c r:Int):Prop where
 c0:0<=c
 c1:c<w
 r0:0<=r
 r1:r<h
theorem Cell.pl{w h c r:Int}(z:Cell w h c r):(r*w+c).toNat=Mth.pl w.toNat (c,r)/\0<=r*w+c:=by
 obtain⟨c0,c1,r0,r1⟩:=z;obtain⟨a,rfl⟩:=ZbS c0;obtain⟨b,rfl⟩:=ZbS r0;obtain⟨v,rfl⟩:=ZbS (show 0<=w by omega)
 unfold Mth.pl;simp only[ZaZ];have e:(b:Int)*(v:Int)+(a:Int)=((b*v+a:Nat):Int):=by simp
 rw[e,ZaZ];exact⟨rfl,Int.natCast_nonneg _⟩
theorem wR(a b:Nat):Builtin.bitOr (a:Int) (b:Int)=((a ||| b:Nat):Int):=by
 have n1:∀ x:Nat,¬0<=Builtin.bitNot (x:Int):=λx=>by unfold Builtin.bitNot;omega
 unfold Builtin.bitOr;rw[bitAnd_nn (n1 a) (n1 b),bitNot_bitNot,bitNot_bitNot,bitNot_bitNot,ZaZ,ZaZ]
theorem jx{lo:Int}{n i:Nat}{x:PV}(h:(oV lo n)[i]?=some x):i<n/\x=.int (lo+(i:Int)):=by
 have hi:i<n:=by simpa[oV] using cD h
 unfold oV at h;rw[Zae,ZaI hi] at h;exact⟨hi,(Zah h).symm⟩
theorem take_snoc{α:Type}{l:List α}{i:Nat}{x:α}(h:l[i]?=some x):l.take (i+1)=l.take i++[x]:=by
 rw[List.take_succ,h];rfl
theorem Lh{w h c r:Int}(sz:Sz w h)(cl:Cell w h c r):kZ [.tup [.int w,.int h],.tup [.int c,.int r]]=some (.ok (.int (r*w+c))):=by
 refine mG ?_;unfold pD;walk_at "rd"
 have:=cl.r0;have:=cl.r1;have:=sz.h1;exact .inl ⟨by lia,by lia⟩
theorem HS{w h:Int}(sz:Sz w h)(ps:List (Int×Int))(hc:∀ c∈ps,Cell w h c.1 c.2):qm [.tup [.int w,.int h],.lst (ps.map cellP)]=some (.ok (.int (Mth.qY w.toNat ps))):=by
 refine mG ?_;unfold uQ;walk_at "rd"
 refine cP (λi ρ=>∃ v,ρ=[some (.sh (.tup [.int w,.int h])),some (.sh (.lst (ps.map cellP))),some (.sh (.int (Mth.qY w.toNat (ps.take i)))),v]) ⟨none,rfl⟩ ?_ ?_
 ·rintro i x ρ hx ⟨v,rfl⟩;rw[Zae] at hx;cases hd:ps[i]? with
  |none=>rw[hd] at hx;cases hx
  |some d=>
   rw[hd] at hx;cases hx;have cl:=hc d (ZaE hd);obtain⟨e1,e2⟩:=cl.pl;have hm:=sz.mul;have ha:=sz.at cl.c0 cl.c1 cl.r0 cl.r1;unfold uO;walk_at "rd"
   rw[Lh sz cl];walk_at "rd"
   have e3:(1:Int)*2^Mth.pl w.toNat (d.1,d.2)=((2^Mth.pl w.toNat d:Nat):Int):=by simp
   rw[e1,e3,wR,take_snoc hd,Mth.GR];exact⟨by lia,by lia,by decide,_,rfl⟩
 ·rintro ρ ⟨v,rfl⟩;unfold uP;walk_at "rd"
  rw[Za9 (by simp)]
def isL(c:Nat):Bool:=decide (97<=c/\c<=122)
def Uy(z:Str):Bool:=decide (1<=z.length/\z.length<=8)&&z.cps.toList.all isL
theorem RN(n:Nat)(u:Option Int):Builtin.Str.strSliceIndices none u 1 n=Builtin.Str.strSliceIndices (some 0) u 1 n:=by
 have e:max (0:Int) (min 0 (n:Int))=0:=by omega
 simp[Builtin.Str.strSliceIndices,e]
theorem Li(n:Nat)(l:Option Int):Builtin.Str.strSliceIndices l none 1 n=Builtin.Str.strSliceIndices l (some (n:Int)) 1 n:=by
 have e:max (0:Int) (min (n:Int) (n:Int))=n:=by omega
 have e2:¬((n:Int)<0):=by omega
 simp[Builtin.Str.strSliceIndices,e,e2]
theorem Aj(x:Str){a b:Nat}(hab:a<=b)(hb:b<=x.length):Txt.slice x (some (a:Int)) (some (b:Int))=ofL ((x.cps.toList.drop a).take (b-a)):=by
 unfold Txt.slice;rw[PySem.StrLaws.sliced_plain x hab hb];split
 ·rename_i h;rw[PySem.StrLaws.strSliceIndices_plain hab hb] at h;have hl:b-a=x.length:=by simpa using h
  have ea:a=0:=by omega
  subst ea;rw[Zbo,Nat.sub_zero,Za9 (by rw[ZaC];show x.length<=b;omega)]
  rfl
 ·rfl
theorem Lj(x:Str){b:Nat}(hb:b<=x.length):Txt.slice x none (some (b:Int))=ofL (x.cps.toList.take b):=by
 have:=Aj x (a:=0) (Zba b) hb;rw[Zbo,Nat.sub_zero] at this;rw[<-this];unfold Txt.slice;rw[RN];rfl
theorem Dg(x:Str){a:Nat}(ha:a<=x.length):Txt.slice x (some (a:Int)) none=ofL (x.cps.toList.drop a):=by
 have:=Aj x ha (Zaf x.length);rw[Za9 (by rw[List.length_drop,ZaC];exact Zaf _)] at this
 rw[<-this];unfold Txt.slice;rw[Li]
theorem O6(a b:List Nat):ofL a++ofL b=ofL (a++b):=by
 apply Str.ext'
 apply Array.toList_inj.mp
 show((ofL a).cps++(ofL b).cps).toList=_
 rw[ZaV];rfl
theorem Gk(c:Nat):(⟨#[c]⟩:Str)=ofL [c]:=rfl
def prP(p:Str×Str):PV:=.tup [.str p.1,.str p.2]
inductive Ink where
 |cov (name colour:Str)
 |glz (name:Str) (ps:List (Str×Str))
def Ink.name:Ink->Str
 |.cov n _=>n
 |.glz n _=>n
def lL:Ink->PV
 |.cov n c=>.tup [.str "cover",.str n,.str c]
 |.glz n ps=>.tup [.str "glaze",.str n,.tup (ps.map prP)]
theorem Uh(l:List (Str×Str))(a b:Str):l.map prP++[PV.tup [.str a,.str b]]=(l++[(a,b)]).map prP:=by rw[ZaM];rfl
def RP(cols:List Str)(ps:List (Str×Str)):Prop:=ps.length<=8/\(∀ p∈ps,p.1∈cols/\p.2∈cols)/\(ps.map (·.1)).Nodup
def Gm(cols:List Str):Ink->Prop
 |.cov _ c=>c∈cols
 |.glz _ ps=>ps≠[]/\RP cols ps
theorem uT{cs:List Str}{i:Int}(h0:0<=i)(h1:i<cs.length):∃ y,atI (cs.map PV.str) i=some (.str y)/\y∈cs/\cs[i.toNat]?=some y:=by
 obtain⟨y,e1,e2⟩:=pP (xs:=cs) h0 h1;exact⟨y,by rw[Gb,e1];rfl,ZaE e2,e2⟩
theorem O7(a:Str)(l:List Str):inF (.str a) (l.map PV.str)=some (decide (a∈l)):=Ga (g:=PV.str) (λa b=>eqF_str 31 a b) a l
theorem uU{f:PV->PV->Option Bool}:∀ {l:List PV},(∀ x∈l,f x x=some true)->eqL f l l=some true
 |[],_=>rfl
 |x::xs,h=>by rw[eqL,h x List.mem_cons_self,uU λy hy=>h y (List.mem_cons_of_mem _ hy)];rfl
theorem ji{n:Nat}{l:List PV}(h:∀ x∈l,eqF n x x=some true):eqF (n+1) (.tup l) (.tup l)=some true:=by
 exact uU h
theorem m8{n:Nat}{l:List PV}(h:∀ x∈l,eqF n x x=some true):eqF (n+1) (.lst l) (.lst l)=some true:=by
 exact(Zal rfl).trans (uU h)
theorem jj(n:Nat)(z:Str):eqF n (.str z) (.str z)=some true:=by rw[eqF_str,ZaD rfl]
theorem Ak(n:Nat)(z:Int):eqF n (.int z) (.int z)=some true:=by rw[eqF_int,ZaD rfl]
theorem oh{α:Type}{j:Nat}{el:Fn PV}{ρb:Rho}(g f:α->PV):∀ (l:List α),(∀ a∈l,Tv (el (ρb.set j (some (.sh (g a))))) λp=>p=f a)->eZ (gN j) lX el ρb (l.map g)=some (.ok (l.map f))
 |[],_=>rfl
 |a::l,h=>by
  have e1:=uN (h a List.mem_cons_self);have ih:=oh g f l λb hb=>h b (List.mem_cons_of_mem _ hb);rw[Zas,eZ];simp only[gN,lX,bnd,Zb3,e1,ih,Zas]
theorem Gn{α:Type}{j:Nat}{tst:Fn Bool}{el:Fn PV}{ρb:Rho}(g f:α->PV)(t:α->Bool):∀ (l:List α),(∀ a∈l,Tv (tst (ρb.set j (some (.sh (g a))))) λb=>b=t a)->(∀ a∈l,t a=true->Tv (el (ρb.set j (some (.sh (g a))))) λp=>p=f a)->eZ (gN j) tst el ρb (l.map g)=some (.ok ((l.filter t).map f))
 |[],_,_=>rfl
 |a::l,h,h2=>by
  have e0:=uN (h a List.mem_cons_self);have ih:=Gn g f t l (λb hb=>h b (List.mem_cons_of_mem _ hb)) λb hb=>h2 b (List.mem_cons_of_mem _ hb);rw[Zas,eZ];simp only[gN,bnd,e0,ih];cases ht:t a with
  |true=>
   have e1:=uN (h2 a List.mem_cons_self ht);simp only[Zb3,e1,List.filter_cons,ht,Zas]
  |false=>simp only[ZbZ,ZbJ,List.filter_cons,ht]
def lkp(ps:List (Str×Str))(c:Str):Str:=match ps.find? (λp=>decide (p.1=c)) with
 |some p=>p.2
 |none=>c
def Dh:Ink->Str->Str
 |.cov _ d,_=>d
 |.glz _ ps,c=>lkp ps c
def rU:Ink:=.cov ⟨#[]⟩ ⟨#[]⟩
def bW(inks:List Ink)(paper:Str)(st:List Nat):Str:=st.foldl (λc n=>Dh (inks.getD n rU) c) paper
def jy(l:List Nat):PV:=.lst (l.map λ(n:Nat)=>PV.int (n:Int))
def dq(w h:Nat)(f:Nat->Nat->Str):PV:=.lst ((List.range h).map λr=>.lst ((List.range w).map λc=>.str (f c r)))
theorem Al(n:Nat):oV 0 n=(List.range n).map λi=>PV.int ((i:Nat):Int):=by
 unfold oV;exact Zbf λi _=>by rw[Int.zero_add]
theorem Di(ps:List (Str×Str)):fH (ps.map prP)=some (ps.map λp=>(PV.str p.1,PV.str p.2)):=by
 induction ps with
 |nil=>rfl
 |cons p ps ih=>
  rw[Zas];unfold fH;rw[ih];rfl
theorem rW:∀ (ps:List (Str×Str)) (l0:List (Key×PV)),l0.length+ps.length<=1000->(ps.map (·.1)).Nodup ->
  ∃ l,dz (.dk l0) (ps.map λp=>(PV.str p.1,PV.str p.2))=some (.dk l)/\∀ c,bZ l (.inr c)=((ps.find? λp=>decide (p.1=c)).map λp=>PV.str p.2).or (bZ l0 (.inr c))
 |[],l0,_,_=>⟨l0,rfl,λc=>rfl⟩
 |p::ps,l0,hl,hn=>by
  rw[Zas,Zbg] at hn;rw[ZaN] at hl;have h1:=Ai (Sum.inr p.1:Key) (.str p.2) l0;obtain⟨l,e,hv⟩:=rW ps (jd l0 (.inr p.1) (.str p.2)) (by omega) hn.2
  refine⟨l,?_,λc=>?_⟩
  ·rw[Zas];unfold dz;rw[show Cq (.dk l0) (.str p.1) (.str p.2)=some (.dk (jd l0 (.inr p.1) (.str p.2))) from by rw[Df,Zal (aX (by omega))]]
   exact e
  ·rw[hv,Ah,ZbK];by_cases hc:p.1=c
   ·subst hc;rw[Zal rfl];have:ps.find? (λq=>decide (q.1=p.1))=none:=by
     rw[List.find?_eq_none];intro q hq hd;exact hn.1 (ZaQ.mpr ⟨q,hq,by simpa using hd⟩)
    rw[this];simp
   ·rw[Zak (λz=>hc (Sum.inr.inj z).symm)];simp[hc]
theorem RQ:10^250<=2^9000:=by
 have h:(10^50)^5<=(2^167)^5:=Nat.pow_le_pow_left (by decide) 5
 rw[<-Nat.pow_mul,<-Nat.pow_mul] at h;exact ZaX h (Nat.pow_le_pow_right (by decide) (by decide))
theorem lA{x:Int}(h0:0<=x)(h:x<10^250):x.natAbs<2^9000:=by
 refine Zaw ?_ RQ;have e:((x.natAbs:Nat):Int)=x:=by omega
 have:((x.natAbs:Nat):Int)<((10^250:Nat):Int):=by rw[e];exact h
 exact Int.ofNat_lt.mp this
theorem qH(c k:Int)(k0:0<=k)(k1:k<=1000):∃ n:Nat,cQ [.int c,.int k]=some (.ok (.int (n:Int)))/\n<10^30+57:=by
 suffices h:∃ p,cQ [.int c,.int k]=some (.ok p)/\∃ n:Nat,p=.int (n:Int)/\n<10^30+57 by
  obtain⟨p,e,n,rfl,h⟩:=h;exact⟨n,e,h⟩
 show ∃ p,fin (iM (startR [.int c,.int k] 0))=_/\_
 refine mH ?_;unfold iM;have kk:k*k<=1000*1000:=Int.mul_le_mul k1 k1 k0 (by decide)
 have kk0:0<=k*k:=Int.mul_nonneg k0 k0;walk_at "rd"
 have m0:0<=c%10^30:=Za1 _ (by decide)
 have m1:c%10^30<10^30:=ZaP _ (by decide)
 generalize c%10^30=x at m0 m1
 have q0:0<=(x+k*k+1)*314159265358979323846264338327%(10^30+57):=Za1 _ (by decide)
 have q1:(x+k*k+1)*314159265358979323846264338327%(10^30+57)<10^30+57:=ZaP _ (by decide)
 generalize (x+k*k+1)*314159265358979323846264338327%(10^30+57)=y at q0 q1
 have hb:(10:Int)^30+1000*1000+1<10^250:=by decide +kernel
 exact⟨by decide,by decide,by decide,by decide,lA k0 (by omega),lA k0 (by omega),lA (by omega) (by omega),lA (by decide) (by decide +kernel),by decide,by decide,by decide,by decide,y.toNat,by omega,by omega⟩
theorem grown{t j:Nat}(h:t<10^(31*j))(hj:j<=7):(t:Int)<10^250:=by
 have:t<10^250:=Zaw h (Nat.pow_le_pow_right (by decide) (by omega))
 have:((t:Nat):Int)<((10^250:Nat):Int):=Int.ofNat_lt.mpr this;exact this
theorem HW{w h:Nat}(f:Nat->Nat->Str)(h0:0<h):n6 [dq w h f]=some (.ok (.tup [.int w,.int h])):=by
 refine mG (x:=nZ (startR [dq w h f] 0)) ?_;unfold nZ dq;walk_at "rd"
 have e0:atI ((List.range h).map λr=>PV.lst ((List.range w).map λc=>.str (f c r))) ((0:Nat):Int)=some (PV.lst ((List.range w).map λc=>.str (f c 0))):=gB (by rw[Zae,ZaI h0];rfl)
 refine⟨_,e0,?_⟩;walk_at "rd"
 refine⟨by decide,?_⟩
 rw[List.length_map,List.length_range,List.length_map,List.length_range]
theorem Gp{α:Type}{j:Nat}{el:Fn PV}{ρb:Rho}{g:α->PV}:∀ (l:List α),(∀ a∈l,∃ y,Tv (el (ρb.set j (some (.sh (g a))))) (λp=>p=.str y))->∃ ys:List Str,eZ (gN j) lX el ρb (l.map g)=some (.ok (ys.map PV.str))/\ys.length=l.length
 |[],_=>⟨[],rfl,rfl⟩
 |a::l,h=>by
  obtain⟨y,e⟩:=h a List.mem_cons_self;obtain⟨ys,e2,hl⟩:=Gp l λb hb=>h b (List.mem_cons_of_mem _ hb);have e1:=uN e;refine⟨y::ys,?_,by simp[hl]⟩
  rw[Zas,eZ];simp only[gN,lX,bnd,Zb3,e1,e2,Zas]
theorem pF(ns:List Int)(k at_:Int)(k0:0<=k)(a0:0<=at_)(a1:at_<=900):∃ n:Int,bF [.lst (ns.map .int),.int k,.int at_]=some (.ok (.int n))/\0<=n:=by
 suffices h:∃ p,bF [.lst (ns.map .int),.int k,.int at_]=some (.ok p)/\∃ n:Int,p=.int n/\0<=n by
  obtain⟨p,e,n,rfl,h⟩:=h;exact⟨n,e,h⟩
 obtain⟨c,ec⟩:=lz ns k k0;refine mH (x:=dJ (startR [.lst (ns.map .int),.int k,.int at_] 1)) ?_;unfold dJ;walk_at "rd"
 rw[ec];walk_at "rd"
 generalize hc:(if c<0 then -c else c)=d
 have d0:0<=d:=by rw[<-hc];split<;>omega
 obtain⟨n1,e1,l1⟩:=qH d at_ a0 (by omega)
 obtain⟨n,e2,l2⟩:=qH (n1:Int) (at_+1) (by omega) (by omega)
 refine⟨by decide,by decide,by decide,t7 (λh=>?_) (λh=>?_)⟩
 ·unfold gY;walk_at "rd"
  exact d0
 ·unfold gZ;walk_at "rd"
  rw[e1];walk_at "rd"
  rw[e2];walk_at "rd"
  exact Int.natCast_nonneg _
theorem Am(p k:Int)(p0:0<=p)(p1:p<=2):∃ y:Str,d8 [.int p,.int k]=some (.ok (.str y)):=by
 suffices h:∃ q,d8 [.int p,.int k]=some (.ok q)/\∃ y:Str,q=.str y by
  obtain⟨q,e,y,rfl⟩:=h;exact⟨y,e⟩
 obtain⟨a,rfl⟩:=ZbS p0;have l2:(Str.ofString "mm").length=2:=by decide +kernel
 have l25:(Str.ofString "qwertyuiopasdfghjklzxcvbn").length=25:=by decide +kernel
 have lt25:(Str.ofString "qwertyuiopasdfghjklzxcvbn").cps.toList.length=25:=by decide +kernel
 have ha:a<=2:=by omega
 obtain⟨c,e1,_⟩:=pP (xs:=(Str.ofString "qwertyuiopasdfghjklzxcvbn").cps.toList) (i:=k%25) (Za1 _ (by decide)) (by rw[lt25];exact ZaP _ (by decide))
 refine mH (x:=ju (startR [.int (a:Int),.int k] 0)) ?_;unfold ju;walk_at "rd"
 rw[Lj _ (by rw[l2];exact ha),Dg _ (by rw[l2];exact ha)]
 have hc:∀ {l:List Nat},l.length<=2->(ofL l).length<=2:=λh=>by rw[ql];exact h
 have t2:(Str.ofString "mm").cps.toList.length=2:=by decide +kernel
 refine⟨by rw[l2];decide,by decide,by rw[l25];decide,c,e1,?_,by rw[l2];decide,?_,_,rfl⟩
 ·rw[Gk,ql,ql,Zbw,t2];exact ZaJ (aX (by simp;omega))
 ·rw[Gk,O6,ql,ql,List.length_append,Zbw,List.length_drop,t2];exact ZaJ (aX (by simp;omega))
theorem HX(n:Int)(cols:List Str)(h0:cols≠[])(hc:cols.length<=23):∃ ps:List (Str×Str),fW [.int n,.lst (cols.map .str)]=some (.ok (.tup (ps.map prP)))/\RP cols ps/\ps≠[]:=by
 suffices h:∃ p,fW [.int n,.lst (cols.map .str)]=some (.ok p)/\∃ ps:List (Str×Str),p=.tup (ps.map prP)/\RP cols ps/\ps≠[] by
  obtain⟨p,e,z,rfl,h⟩:=h;exact⟨z,e,h⟩
 have hl:0<cols.length:=by cases cols with|nil=>exact absurd rfl h0|cons=>simp
 have big:∀ {n:Nat},n<=1000->n<=sizeLine:=λh=>ZaJ (aX h);have m0:0<=n%8:=Za1 _ (by decide)
 have m1:n%8<8:=ZaP _ (by decide)
 refine mH (x:=iQ (startR [.int n,.lst (cols.map .str)] 4)) ?_;unfold iQ;walk_at "rd"
 refine⟨by decide,by decide,by decide,by omega,by omega,?_⟩
 refine cP (λi ρ=>∃ (ps:List (Str×Str)) (r:Int) (v4 v5:Option Sl),ρ=[some (.sh (.int n)),some (.sh (.lst (cols.map .str))),some (.ow (.lst (ps.map prP))),some (.sh (.int r)),v4,v5]/\ps.length<=i/\(∀ p∈ps,p.1∈cols/\p.2∈cols)/\(ps.map (·.1)).Nodup/\(0<i->ps≠[])) ⟨[],_,none,none,rfl,Zaf _,(λp h=>nomatch h),List.nodup_nil,λh=>absurd h (by decide)⟩ ?_ ?_
 ·rintro i x ρ hx ⟨ps,r,v4,v5,rfl,pl,pc,pn,pz⟩;obtain⟨hi,rfl⟩:=jx hx;refine jr λQS hQ=>?_;unfold mK;walk_at "rd"
  rw[List.length_map];obtain⟨u,eu,hu,_⟩:=uT (cs:=cols) (i:=r%(cols.length:Int)) (Za1 _ (by omega)) (ZaP _ (by omega))
  obtain⟨o,eo,ho,_⟩:=uT (cs:=cols) (i:=r/97%(cols.length:Int)) (Za1 _ (by omega)) (ZaP _ (by omega))
  refine⟨by omega,_,eu,by rw[List.length_map];exact big (by omega),?_⟩
  rw[oh prP (λp=>PV.str p.1) ps λp _=>by unfold prP;walk_at "rd"]
  walk_at "rd"
  refine⟨_,by rw[show ps.map (λp=>PV.str p.1)=(ps.map (·.1)).map PV.str by rw[ZbH];rfl];exact O7 u _,?_⟩
  refine t7 (λhn=>?_) λhn=>?_
  ·unfold mJ;walk_at "rd"
   rw[List.length_map];refine⟨by decide,by decide,by omega,_,eo,by decide,aX (by rw[List.length_map];omega),?_⟩
   unfold jh;walk_at "rd"
   rw[Uh];refine⟨by decide,by decide,hQ _ ⟨_,_,_,_,rfl,by rw[List.length_append];show _+1<=_;omega,λp hp=>?_,?_,λ_=>by simp⟩⟩
   ·rcases Zad.mp hp with h|h
    ·exact pc p h
    ·rw[Zai.mp h];exact⟨hu,ho⟩
   ·rw[ZaM,List.nodup_append];refine⟨pn,by simp,λa ha b hb e=>?_⟩
    have:b=u:=by simpa using hb
    subst this;subst e;have hn:¬a∈ps.map (·.1):=by simpa using hn
    exact hn ha
  ·unfold jh;walk_at "rd"
   have hn:u∈ps.map (·.1):=by simpa using hn
   refine⟨by decide,by decide,hQ _ ⟨_,_,_,_,rfl,by omega,pc,pn,λ_ e=>?_⟩⟩
   rw[e] at hn;simp at hn
 ·rintro ρ ⟨ps,r,v4,v5,rfl,pl,pc,pn,pz⟩;rw[bQ] at pl pz;unfold mL;walk_at "rd"
  exact⟨ps,rfl,⟨by omega,pc,pn⟩,pz (by omega)⟩
structure B17(paper:Str)(inks:List Ink)(cols:List Str):Prop where
 c0:3<=cols.length
 c1:cols.length<=6
 n0:1<=inks.length
 n1:inks.length<=8
 pp:paper∈cols
 ok:∀ k∈inks,Gm cols k
def bnP(paper:Str)(inks:List Ink):PV:=.tup [.str paper,.lst (inks.map lL)]
theorem Lk(l:List Ink)(k:Ink):l.map lL++[lL k]=(l++[k]).map lL:=by rw[ZaM];rfl
theorem An(ns:List Int):∃ (paper:Str) (inks:List Ink) (cols:List Str),eV [.lst (ns.map .int)]=some (.ok (.tup [bnP paper inks,.lst (cols.map .str)]))/\B17 paper inks cols:=by
 suffices h:∃ p,eV [.lst (ns.map .int)]=some (.ok p)/\∃ (paper:Str) (inks:List Ink) (cols:List Str),p=.tup [bnP paper inks,.lst (cols.map .str)]/\B17 paper inks cols by
  obtain⟨p,e,a,b,c,rfl,h⟩:=h;exact⟨a,b,c,e,h⟩
 have big:∀ {n:Nat},n<=1000->n<=sizeLine:=λh=>ZaJ (aX h);obtain⟨n,en,n0⟩:=pF ns 0 0 (by decide) (by decide) (by decide)
 obtain⟨c1,ec1⟩:=lz ns 1 (by decide)
 refine mH (x:=iR (startR [.lst (ns.map .int)] 7)) ?_;refine mF λQE hE=>?_;unfold iR;walk_at "rd"
 rw[en];walk_at "rd"
 generalize n/2=hd
 have a0:0<=hd%3:=Za1 _ (by decide)
 have a1:hd%3<3:=ZaP _ (by decide)
 have b0:0<=hd/100%4:=Za1 _ (by decide)
 have b1:hd/100%4<4:=ZaP _ (by decide)
 generalize hpl:hd%3=pl at a0 a1 ⊢
 generalize hd/100%4=cn at b0 b1 ⊢
 obtain⟨cols,ecols,cl⟩:∃ cols:List Str,eZ (gN 0) lX (bY d8 (aL (mV 1) (aL (m2 cA (m2 fM (mV 2) (mC (.int 3))) (m2 rP (mC (.int 7)) (mV 0))) bH))) [none,some (.sh (.int pl)),some (.sh (.int hd))] ((List.range (3+cn).toNat).map λi=>PV.int ((i:Nat):Int))=some (.ok (cols.map PV.str))/\cols.length=(List.range (3+cn).toNat).length:=by
  refine Gp _ λi hi=>?_;have hi:=ZaR.mp hi;obtain⟨y,ey⟩:=Am pl (hd/3+7*(i:Int)) a0 (by omega)
  refine⟨y,?_⟩;walk_at "rd"
  refine⟨by decide,by decide,.inl ⟨by decide,by decide⟩,?_⟩
  rw[ey];walk_at "rd"
 rw[List.length_range] at cl;refine⟨by decide,by decide,by decide,by decide,by decide,by decide,by omega,by omega,by rw[bQ];exact big (by omega),?_⟩
 rw[Al,ecols];walk_at "rd"
 rw[ec1];walk_at "rd"
 have d0:0<=c1%8:=Za1 _ (by decide)
 have d1:c1%8<8:=ZaP _ (by decide)
 generalize c1%8=mn at d0 d1 ⊢
 refine⟨by decide,by omega,by omega,?_⟩
 have cz:cols≠[]:=λe=>by rw[e] at cl;simp at cl;omega
 refine cP (λi ρ=>∃ (inks:List Ink) (v5 v6 v7:Option Sl),ρ=[some (.sh (.lst (ns.map .int))),some (.sh (.int hd)),some (.sh (.int pl)),some (.sh (.lst (cols.map .str))),some (.ow (.lst (inks.map lL))),v5,v6,v7]/\inks.length=i/\∀ k∈inks,Gm cols k) ⟨[],none,none,none,rfl,rfl,λk h=>nomatch h⟩ ?_ ?_
 ·rintro i x ρ hx ⟨inks,v5,v6,v7,rfl,il,io⟩;obtain⟨hi,rfl⟩:=jx hx;refine jr λQS hQ=>?_;obtain⟨m,em,_⟩:=pF ns (2+(0+(i:Int))) (2+(0+(i:Int))) (by omega) (by omega) (by omega)
  obtain⟨y,ey⟩:=Am ((pl+1)%3) (hd/7+11*(0+(i:Int))) (Za1 _ (by decide)) (by have:=ZaP (pl+1) (show(0:Int)<3 by decide);omega)
  unfold mR;walk_at "rd"
  rw[em];walk_at "rd"
  refine⟨by decide,by decide,by decide,.inl ⟨by decide,by decide⟩,?_⟩
  rw[ey];walk_at "rd"
  have more:∀ k:Ink,Gm cols k->∀ z∈inks++[k],Gm cols z:=λk hk z hz=>by
   rcases Zad.mp hz with h|h
   ·exact io z h
   ·rw[Zai.mp h];exact hk
  refine⟨by decide,t7 (λ_=>?_) λ_=>?_⟩
  ·obtain⟨o,eo,ho,_⟩:=uT (cs:=cols) (i:=m/10%(cols.length:Int)) (Za1 _ (by omega)) (ZaP _ (by omega))
   unfold mO;walk_at "rd"
   rw[List.length_map];refine⟨by decide,by decide,by omega,_,eo,by decide,aX (by rw[List.length_map];omega),?_⟩
   exact hQ _ ⟨inks++[.cov y o],_,_,_,by rw[<-Lk];rfl,by simp[il],more (.cov y o) ho⟩
  ·obtain⟨ps,ep,po,pz⟩:=HX (m/10) cols cz (by omega)
   unfold mQ;walk_at "rd"
   refine⟨by decide,by decide,?_⟩
   rw[ep];walk_at "rd"
   refine⟨by decide,aX (by rw[List.length_map];omega),?_⟩
   exact hQ _ ⟨inks++[.glz y ps],_,_,_,by rw[<-Lk];rfl,by simp[il],more (.glz y ps) ⟨pz,po⟩⟩
 ·rintro ρ ⟨inks,v5,v6,v7,rfl,il,io⟩;rw[bQ] at il;obtain⟨o,eo,ho,_⟩:=uT (cs:=cols) (i:=hd/1000%(cols.length:Int)) (Za1 _ (by omega)) (ZaP _ (by omega))
  unfold mU;walk_at "rd"
  rw[Lf rfl];walk_at "rd"
  rw[List.length_map];refine⟨by decide,by decide,by omega,_,eo,by decide,by decide,hE _ ⟨_,rfl,o,inks,cols,rfl,⟨by omega,by omega,by omega,by omega,ho,io⟩⟩⟩
theorem HY(n:Nat)(k:Ink):eqF (n+3) (lL k) (lL k)=some true:=by
 cases k with
 |cov a b=>
  refine ji λx hx=>?_;simp only[Zay,ZbF,or_false] at hx;rcases hx with rfl|rfl|rfl<;>exact jj _ _
 |glz a ps=>
  refine ji λx hx=>?_;simp only[Zay,ZbF,or_false] at hx;rcases hx with rfl|rfl|rfl
  ·exact jj _ _
  ·exact jj _ _
  ·refine ji λx hx=>?_;obtain⟨p,_,rfl⟩:=ZaQ.mp hx;refine ji λx hx=>?_;simp only[Zay,ZbF,or_false] at hx;rcases hx with rfl|rfl<;>exact jj _ _
theorem Ln(n:Nat)(paper:Str)(inks:List Ink):eqF (n+5) (bnP paper inks) (bnP paper inks)=some true:=by
 refine ji λx hx=>?_;simp only[Zay,ZbF,or_false] at hx;rcases hx with rfl|rfl
 ·exact jj _ _
 ·refine m8 λx hx=>?_;obtain⟨k,_,rfl⟩:=ZaQ.mp hx;exact HY _ k
def stP(s:List Nat):PV:=.tup (s.map λ(n:Nat)=>PV.int (n:Int))
theorem rY{paper:Str}{inks:List Ink}{cols:List Str}(b:B17 paper inks cols)(st:List Nat)(hs:∀ n∈st,n<inks.length):eX [bnP paper inks,stP st]=some (.ok (.str (bW inks paper st))):=by
 refine mG (x:=iT (startR [bnP paper inks,stP st] 5)) ?_;unfold iT bnP stP;walk_at "rd"
 refine cP (λi ρ=>∃ v3 v4 v5 v6,ρ=[some (.sh (.tup [.str paper,.lst (inks.map lL)])),some (.sh (.tup (st.map λ(n:Nat)=>PV.int (n:Int)))),some (.sh (.str (bW inks paper (st.take i)))),v3,v4,v5,v6]) ⟨none,none,none,none,rfl⟩ ?_ ?_
 ·rintro i x ρ hx ⟨v3,v4,v5,v6,rfl⟩;rw[Zae] at hx;cases hn:st[i]? with
  |none=>rw[hn] at hx;cases hx
  |some n=>
   rw[hn] at hx;cases hx;have hl:=hs n (ZaE hn);have hk:=b.ok (inks.getD n rU) (by rw[Zag,Zaa hl];exact Zbq hl)
   have ek:atI (inks.map lL) (n:Int)=some (lL (inks.getD n rU)):=by
    refine gB ?_;rw[Zae,Zaa hl,Zag,Zaa hl];rfl
   have et:bW inks paper (st.take (i+1))=Dh (inks.getD n rU) (bW inks paper (st.take i)):=by
    rw[List.take_succ,hn];unfold bW;rw[List.foldl_append];rfl
   refine jr λQS hQ=>?_;unfold mY;walk_at "rd"
   refine⟨_,ek,?_⟩;cases hi:inks.getD n rU with
   |cov a c=>
    rw[hi] at et;rw[show lL (.cov a c)=.tup [.str "cover",.str a,.str c] from rfl];refine⟨_,rfl,?_⟩;walk_at "rd"
    unfold mW;walk_at "rd"
    exact hQ _ ⟨_,_,_,_,by rw[et];rfl⟩
   |glz a ps=>
    rw[hi] at et hk;rw[show lL (.glz a ps)=.tup [.str "glaze",.str a,.tup (ps.map prP)] from rfl];refine⟨_,rfl,?_⟩;walk_at "rd"
    rw[Zak (by decide)]
    unfold mX;walk_at "rd"
    have:=hk.2.1;obtain⟨l,e,hv⟩:=rW ps [] (by simp only[List.length_nil];omega) hk.2.2.2
    refine⟨_,Di ps,_,e,?_⟩;walk_at "rd"
    refine hQ _ ⟨some (.sh (.int (n:Int))),some (.sh (.str "glaze")),some (.sh (.str a)),some (.sh (.tup (ps.map prP))),?_⟩;rw[hv,et];show _=[_,_,some (Sl.sh (PV.str (lkp ps _))),_,_,_,_]
    unfold lkp;cases ps.find? (λp=>decide (p.1=bW inks paper (st.take i)))<;>rfl
 ·rintro ρ ⟨v3,v4,v5,v6,rfl⟩;rw[List.length_map,List.take_length];unfold mZ;walk_at "rd"
theorem O8{x y:List PV}{Q:PV->Prop}:Tv (CV (.tup x) (.tup y)) Q=(x.length+y.length<=sizeLine/\Q (.tup (x++y))):=b7
theorem Ao{κ:Type}[DecidableEq κ](k j:κ)(p:PV):∀ l:List (κ×PV),bZ (bj l k p) j=if j=k then some p else bZ l j
 |[]=>by
  by_cases h:j=k
  ·subst h;simp[bj,bZ]
  ·rw[Zak h];simp[bj,bZ,Zbs h]
 |(k',q)::l=>by
  unfold bj;by_cases h:k'=k
  ·subst h;rw[Zal rfl];by_cases hj:j=k'
   ·subst hj;simp[bZ]
   ·simp[bZ,hj,Zbs hj]
  ·rw[Zak h];by_cases hj:k'=j
   ·subst hj;simp[bZ,h]
   ·simp only[bZ,Zak hj];exact Ao k j p l
theorem Aq{κ:Type}[DecidableEq κ](k:κ)(p:PV):∀ l:List (κ×PV),(bj l k p).length<=l.length+1
 |[]=>by simp[bj]
 |(k',q)::l=>by
  unfold bj;split
  ·simp
  ·have:=Aq k p l;simp only[ZaN];omega
def stk:Nat->List (List Nat)
 |0=>[[]]
 |n+1=>stk n++(stk n).map λs=>s++[n]
theorem rM:∀ {n:Nat}{s:List Nat},s∈stk n->∀ x∈s,x<n
 |0,s,h,x,hx=>by rw[Zai.mp h] at hx;cases hx
 |n+1,s,h,x,hx=>by
  rcases Zad.mp h with h|h
  ·have:=rM h x hx;omega
  ·obtain⟨t,ht,rfl⟩:=ZaQ.mp h;rcases Zad.mp hx with hx|hx
   ·have:=rM ht x hx;omega
   ·rw[Zai.mp hx];omega
theorem Gq:∀ n:Nat,(stk n).length=2^n
 |0=>rfl
 |n+1=>by rw[stk,List.length_append,List.length_map,Gq n,Nat.pow_succ];omega
theorem Dj:∀ {n:Nat}{s:List Nat},s∈stk n->s.length<=n
 |0,s,h=>by rw[Zai.mp h];decide
 |n+1,s,h=>by
  rcases Zad.mp h with h|h
  ·have:=Dj h;omega
  ·obtain⟨t,ht,rfl⟩:=ZaQ.mp h;have:=Dj ht;rw[List.length_append,List.length_singleton];omega
theorem Dk:∀ n:Nat,(stk n).Nodup
 |0=>by decide
 |n+1=>by
  rw[stk,List.nodup_append];refine⟨Dk n,?_,λa ha b hb e=>?_⟩
  ·refine List.Pairwise.map _ (λa b h e=>h ?_) (Dk n);exact List.append_cancel_right e
  ·obtain⟨t,ht,rfl⟩:=ZaQ.mp hb;subst e;have:=rM ha n (by simp)
   omega
theorem qI{n:Nat}(h:n<=8):(stk n).length<=256:=by
 rw[Gq];exact Nat.pow_le_pow_right (by decide) h
def tkS(s:List Nat):Tk:=((s.length:Int),s.map λ(n:Nat)=>(n:Int))
theorem O9{s t:List Nat}(h:tkS s=tkS t):s=t:=by
 have h2:s.map (λ(n:Nat)=>(n:Int))=t.map λ(n:Nat)=>(n:Int):=ZbI Prod.snd h;exact List.map_inj_right (λa b e=>Int.ofNat.inj e) |>.mp h2
def srt(n:Nat):List (List Nat):=(jJ gW ((stk n).map tkS)).map λj=>(stk n).getD j []
theorem gK(n:Nat):(srt n).Perm (stk n):=by
 have p:=(jK gW ((stk n).map tkS)).map λj=>(stk n).getD j [];rw[List.length_map] at p;have e:(List.range (stk n).length).map (λj=>(stk n).getD j [])=stk n:=by
  apply Zbj
  intro i;rw[Zae];by_cases h:i<(stk n).length
  ·rw[ZaI h,Zaa h];show some ((stk n).getD i [])=_
   rw[Zag,Zaa h];rfl
  ·rw[Zat (by rw[List.length_range];omega),Zat (by omega)]
   rfl
 rw[e] at p;exact p
theorem uV:∀ s:List Nat,jB (s.map λ(n:Nat)=>PV.int (n:Int))=some (s.map λ(n:Nat)=>(n:Int))
 |[]=>rfl
 |a::s=>by rw[Zas,jB,uV s];rfl
theorem Ar{m:List PV->Option (Res PV)}(hm:∀ s:List Nat,m [stP s]=some (.ok (.tup [.int (s.length:Int),stP s]))):∀ l:List (List Nat),keysOf m (l.map stP)=some (l.map tkS)
 |[]=>rfl
 |s::l=>by
  rw[Zas,keysOf,hm s];simp only[Ar hm l];have e:RM (.tup [.int (s.length:Int),stP s])=some (tkS s):=by
   show(jB (s.map λ(n:Nat)=>PV.int (n:Int))).map _=_
   rw[uV];rfl
  rw[e];rfl
theorem Ia{m:List PV->Option (Res PV)}(hm:∀ s:List Nat,m [stP s]=some (.ok (.tup [.int (s.length:Int),stP s]))){n:Nat}(hn:n<=8):kY m ((stk n).map stP)=some (.ok (.lst ((srt n).map stP))):=by
 unfold kY;rw[Ar hm];simp only;rw[Zal]
 ·unfold srt;rw[ZbH];congr 3
  refine Zbf λj hj=>?_;have hj:j<(stk n).length:=by have:=qi j hj;rwa [List.length_map] at this
  show((stk n).map stP).getD j .non=stP ((stk n).getD j [])
  rw[Zag,Zae,Zag,Zaa hj];rfl
 ·refine⟨?_,λp hp q hq e=>?_,by rw[List.length_map];have:=qI hn;exact aX (by omega)⟩
  ·exact List.Pairwise.map _ (λa b h e=>h (O9 e)) (Dk n)
  ·obtain⟨s,_,rfl⟩:=ZaQ.mp hp;obtain⟨t,_,rfl⟩:=ZaQ.mp hq;show(s.map _).length=(t.map _).length
   rw[List.length_map,List.length_map];exact Int.ofNat.inj e
theorem Lp{m:List PV->Option (Res PV)}{l:List PV}{r:PV}{Q:PV->Prop}(h:kY m l=some (.ok r)):Tv (kY m l) Q=Q r:=by rw[h,tv_some]
theorem Pb(s:List Nat)(n:Nat):(s.map λ(n:Nat)=>PV.int (n:Int))++[PV.int (n:Int)]=(s++[n]).map λ(n:Nat)=>PV.int (n:Int):=by rw[ZaM];rfl
theorem Ib(s:List Nat):iV [stP s]=some (.ok (.tup [.int (s.length:Int),stP s])):=by
 refine mG (x:=iU (startR [stP s] 0)) ?_;unfold iU stP;walk_at "rd"
 rw[List.length_map];exact⟨by decide,rfl⟩
theorem Gr{n:Nat}(hn:n<=8):gn [.int (n:Int)]=some (.ok (.lst ((srt n).map stP))):=by
 have big:∀ {n:Nat},n<=1000->n<=sizeLine:=λh=>ZaJ (aX h);refine tR (x:=lr (startR [.int (n:Int)] 2)) ?_;refine mF λQE hE=>?_;unfold lr;walk_at "rd"
 refine⟨by decide,by omega,by omega,?_⟩
 refine cP (λi ρ=>∃ v2,ρ=[some (.sh (.int (n:Int))),some (.sh (.lst ((stk i).map stP))),v2]) ⟨none,rfl⟩ ?_ ?_
 ·rintro i x ρ hx ⟨v2,rfl⟩;obtain⟨hi,rfl⟩:=jx hx;refine jr λQS hQ=>?_;rw[Int.zero_add];unfold qw;walk_at "rd"
  have hl:=qI (n:=i) (by omega)
  refine⟨by rw[List.length_map];exact big (by omega),?_⟩
  rw[oh stP (λs=>stP (s++[i])) (stk i) λs hs=>?_]
  ·walk_at "rd"
   refine⟨by rw[List.length_map,List.length_map];exact big (by omega),hQ _ ⟨some (.sh (.int (i:Int))),?_⟩⟩
   rw[show(stk i).map (λs=>stP (s++[i]))=((stk i).map λs=>s++[i]).map stP by rw[ZbH];rfl,<-ZaM]
   rfl
  ·have:=Dj hs;unfold stP;walk_at "rd"
   simp only[O8];refine⟨by decide,by rw[List.length_map];exact big (by simp;omega),?_⟩
   rw[Pb]
 ·rintro ρ ⟨v2,rfl⟩;rw[bQ,ZaZ];unfold qx;walk_at "rd"
  rw[Lp (Ia Ib hn)];exact hE _ rfl
def shw(inks:List Ink)(paper:Str)(L:List (List Nat))(c:Str):List (List Nat):=L.filter λs=>decide (bW inks paper s=c)
theorem uW{i:Nat}{fk fe:Fn PV}{ρ:Rho}{QS:Out->Prop}{l:List (Key×PV)}{kp q:PV}{k:Key}{row:List PV}(h1:ρ[i]?=some (some (.dp (.dk l))))(hl:l.length<sizeLine)(h2:fk ρ=some (.ok kp))(hk:pZ kp=some k)(hr:(bZ l k).getD (.lst [])=.lst row)
  (h3:fe (ρ.set i (some (.dp (.dk (bj l k (.lst row))))))=some (.ok q))(hq:q.still=true)(hz:row.length<sizeLine)(h:QS (.nx (ρ.set i (some (.dp (.dk (bj l k (.lst (row++[q]))))))))):To (jH i fk fe ρ) QS:=by
 have e:vB i ρ=some (.dk l):=by unfold vB;rw[h1]
 unfold jH;rw[e];simp only[Zal hl,h2,jE,hk,hr,h3,Zal (And.intro hq hz)];rw[to_nx];exact h
theorem Ie(s:List Nat):(stP s).still=true:=by
 unfold stP;show BV _ _=true
 exact Zbx.mpr λx hx=>by obtain⟨n,_,rfl⟩:=ZaQ.mp hx;rfl
def ByC(inks:List Ink)(paper:Str)(L:List (List Nat))(d:List (Key×PV)):Prop:=d.length<=L.length/\∀ c:Str,bZ d (.inr c)=if shw inks paper L c=[] then none else some (.lst ((shw inks paper L c).map stP))
theorem ByC.nil{inks:List Ink}{paper:Str}:ByC inks paper [] []:=⟨Zaf _,λc=>rfl⟩
theorem ByC.row{inks:List Ink}{paper:Str}{L:List (List Nat)}{d:List (Key×PV)}(b:ByC inks paper L d)(c:Str):(bZ d (.inr c)).getD (.lst [])=.lst ((shw inks paper L c).map stP):=by
 rw[b.2 c];by_cases h:shw inks paper L c=[]
 ·rw[Zal h,h];rfl
 ·rw[Zak h];rfl
theorem ByC.snoc{inks:List Ink}{paper:Str}{L:List (List Nat)}{d:List (Key×PV)}(b:ByC inks paper L d)(s:List Nat):ByC inks paper (L++[s]) (bj d (.inr (bW inks paper s)) (.lst ((shw inks paper L (bW inks paper s)).map stP++[stP s]))):=by
 refine⟨?_,λc=>?_⟩
 ·have:=Aq (.inr (bW inks paper s):Key) (.lst ((shw inks paper L (bW inks paper s)).map stP++[stP s])) d;have:=b.1;rw[List.length_append,List.length_singleton];omega
 ·rw[Ao];unfold shw;rw[List.filter_append];by_cases h:c=bW inks paper s
  ·subst h;rw[Zal rfl,ZbT (by simp),ZbE,Zak (by simp),ZaM]
   rfl
  ·rw[Zak (λz=>h (Sum.inr.inj z)),ZbU (by simpa using Zbs h),ZbE,ZaS]
   exact b.2 c
theorem snocInd{α:Type}{P:List α->Prop}(nil:P [])(snoc:∀ l a,P l->P (l++[a]))(l:List α):P l:=by
 have h:∀ l:List α,P l.reverse:=λl=>by
  induction l with
  |nil=>exact nil
  |cons a l ih=>rw[List.reverse_cons];exact snoc _ _ ih
 have:=h l.reverse
 rwa [List.reverse_reverse] at this
def ddF(ks:List Str):List Str:=ks.foldl (λa k=>if k∈a then a else a++[k]) []
theorem uX(ks:List Str)(k:Str):ddF (ks++[k])=if k∈ddF ks then ddF ks else ddF ks++[k]:=by
 unfold ddF;rw[List.foldl_append];rfl
theorem Pg(ks:List Str):∀ {c:Str},c∈ddF ks↔c∈ks:=by
 induction ks using snocInd with
 |nil=>intro c;exact Iff.rfl
 |snoc ks k ih=>
  intro c;rw[uX,Zad,Zai];split
  ·rename_i h;rw[ih];exact⟨.inl,λz=>z.elim id λe=>e▸ih.mp h⟩
  ·rw[Zad,Zai,ih]
theorem RT(ks:List Str):(ddF ks).Nodup:=by
 induction ks using snocInd with
 |nil=>exact List.nodup_nil
 |snoc ks k ih=>
  rw[uX];split
  ·exact ih
  ·rename_i h;rw[List.nodup_append];exact⟨ih,by simp,λa ha b hb e=>h (by rw[Zai.mp hb] at e;exact e▸ha)⟩
section
variable{α:Type}
def sel(L:List (Str×α))(c:Str):List α:=(L.filter λp=>decide (p.1=c)).map (·.2)
def kys(L:List (Str×α)):List Str:=ddF (L.map (·.1))
def grp(g:α->PV)(L:List (Str×α)):List (Key×PV):=(kys L).map λc=>(.inr c,.lst ((sel L c).map g))
theorem uY(L:List (Str×α))(k:Str)(a:α)(c:Str):sel (L++[(k,a)]) c=if k=c then sel L c++[a] else sel L c:=by
 unfold sel;rw[List.filter_append];split
 ·rename_i h;rw[ZbT (by simpa using h),ZbE,ZaM]
  rfl
 ·rename_i h;rw[ZbU (by simpa using h),ZbE,ZaS]
theorem uZ(L:List (Str×α))(k:Str)(a:α):kys (L++[(k,a)])=if k∈kys L then kys L else kys L++[k]:=by
 unfold kys;rw[ZaM];exact uX _ _
theorem yt{L:List (Str×α)}{c:Str}:c∈kys L↔∃ a,(c,a)∈L:=by
 unfold kys;rw[Pg,ZaQ];exact⟨λ⟨p,h,e⟩=>⟨p.2,by rw[<-e];exact h⟩,λ⟨a,h⟩=>⟨_,h,rfl⟩⟩
theorem Lq(L:List (Str×α)):(kys L).Nodup:=RT _
theorem tU{L:List (Str×α)}{c:Str}{a:α}:a∈sel L c↔(c,a)∈L:=by
 unfold sel;rw[ZaQ];constructor
 ·rintro⟨p,h,rfl⟩;rw[ZbA,Zbb] at h;rw[<-h.2];exact h.1
 ·intro h;exact⟨(c,a),ZbA.mpr ⟨h,by simp⟩,rfl⟩
theorem Ph{L:List (Str×α)}{c:Str}(h:c ∉ kys L):sel L c=[]:=by
 cases e:sel L c with
 |nil=>rfl
 |cons a l=>exact absurd (yt.mpr ⟨a,tU.mp (by rw[e];exact List.mem_cons_self)⟩) h
theorem lB{F:Str->PV}{c:Str}:∀ {ks:List Str},bZ (ks.map λc=>((.inr c:Key),F c)) (.inr c)=if c∈ks then some (F c) else none
 |[]=>rfl
 |k::ks=>by
  rw[Zas];by_cases h:k=c
  ·subst h;simp[bZ]
  ·have ih:=lB (F:=F) (c:=c) (ks:=ks);have hc:(Sum.inr k:Key)≠.inr c:=λz=>h (Sum.inr.inj z);simp only[bZ,Zak hc,ih,Zay,show(c=k)=False from eq_false (Zbs h),false_or]
theorem Pj(g:α->PV)(L:List (Str×α))(c:Str):bZ (grp g L) (.inr c)=if c∈kys L then some (.lst ((sel L c).map g)) else none:=lB (F:=λc=>.lst ((sel L c).map g))
theorem Pk(g:α->PV)(L:List (Str×α))(c:Str):(bZ (grp g L) (.inr c)).getD (.lst [])=.lst ((sel L c).map g):=by
 rw[Pj];split
 ·rfl
 ·rename_i h;rw[Ph h];rfl
theorem Lr{F:Str->PV}{k:Str}{p:PV}:∀ {ks:List Str},ks.Nodup->bj (ks.map λc=>((.inr c:Key),F c)) (.inr k) p=if k∈ks then ks.map λc=>((.inr c:Key),if c=k then p else F c) else ks.map (λc=>((.inr c:Key),F c))++[(.inr k,p)]
 |[],_=>rfl
 |c::ks,nd=>by
  obtain⟨n1,n2⟩:=Zbg.mp nd;rw[Zas];unfold bj;by_cases h:c=k
  ·subst h;rw[Zal rfl,Zal List.mem_cons_self,Zas,Zal rfl];congr 1
   refine Zbf λd hd=>?_;rw[Zak (λz:d=c=>n1 (by rw[<-z];exact hd))]
  ·have hc:(Sum.inr c:Key)≠.inr k:=λz=>h (Sum.inr.inj z);rw[Zak hc,Lr n2];by_cases hk:k∈ks
   ·rw[Zal hk,Zal (List.mem_cons_of_mem _ hk),Zas,Zak h]
   ·rw[Zak hk,Zak (λz=>(Zay.mp z).elim (λe=>h e.symm) hk)];rfl
theorem Pn(g:α->PV)(L:List (Str×α))(k:Str)(a:α):bj (grp g L) (.inr k) (.lst ((sel L k).map g++[g a]))=grp g (L++[(k,a)]):=by
 unfold grp;rw[Lr (F:=λc=>.lst ((sel L c).map g)) (Lq L),uZ];by_cases h:k∈kys L
 ·rw[Zal h,Zal h];refine Zbf λc _=>?_;rw[uY];by_cases hc:c=k
  ·subst hc;rw[Zal rfl,Zal rfl,ZaM];rfl
  ·rw[Zak hc,Zak (Zbs hc)]
 ·rw[Zak h,Zak h,ZaM];congr 1
  ·refine Zbf λc hc=>?_;rw[uY,Zak (λz:k=c=>h (by rw[z];exact hc))]
  ·rw[Zas,List.map_nil,uY,Zal rfl,ZaM];rfl
theorem Dl(L:List (Str×α)):(kys L).length<=L.length:=by
 unfold kys ddF
 suffices h:∀ (ks:List Str) (a:List Str),(ks.foldl (λa k=>if k∈a then a else a++[k]) a).length<=a.length+ks.length by
  have:=h (L.map (·.1)) [];simpa using this
 intro ks;induction ks with
 |nil=>intro a;exact Zaf _
 |cons k ks ih=>
  intro a;rw[List.foldl_cons];have:=ih (if k∈a then a else a++[k]);rw[ZaN];split at this
  ·rename_i h;rw[Zal h];omega
  ·rename_i h;rw[Zak h];rw[List.length_append,List.length_singleton] at this;omega
theorem RV(L:List (Str×α))(c:Str):(sel L c).length<=L.length:=by
 unfold sel;rw[List.length_map];exact List.length_filter_le _ _
theorem u0{k:Key}{p:PV}:∀ {l:List (Key×PV)},bZ l k=none->jd l k p=l++[(k,p)]
 |[],_=>rfl
 |(k',q)::l,h=>by
  unfold bZ at h;split at h
  ·cases h
  ·rename_i hk;unfold jd;rw[Zak hk,u0 h];rfl
theorem Gs(F:Str->PV):∀ {ks done:List Str},(done++ks).Nodup->(done++ks).length<=1000->dz (.dk (done.map λc=>((.inr c:Key),F c))) (ks.map λc=>(PV.str c,F c))=some (.dk ((done++ks).map λc=>((.inr c:Key),F c)))
 |[],done,_,_=>by rw[ZaS];rfl
 |c::ks,done,nd,hl=>by
  rw[Zas];unfold dz;have nc:c ∉ done:=λz=>by
   rw[List.nodup_append] at nd;exact nd.2.2 c z c List.mem_cons_self rfl
  have e:Cq (.dk (done.map λc=>((.inr c:Key),F c))) (.str c) (F c)=some (.dk ((done++[c]).map λc=>((.inr c:Key),F c))):=by
   rw[Df,Zal (by rw[List.length_map];rw[List.length_append] at hl;exact aX (by omega)),u0 (by rw[lB,Zak nc]),ZaM]
   rfl
  rw[e];have:=Gs F (ks:=ks) (done:=done++[c]) (by rw[Zau];exact nd) (by rw[Zau];exact hl)
  rw[Zau] at this;exact this
theorem Av(F:Str->PV):∀ ks:List Str,fH (ks.map λc=>PV.tup [.str c,F c])=some (ks.map λc=>(PV.str c,F c))
 |[]=>rfl
 |c::ks=>by
  rw[Zas];unfold fH;rw[Av F ks];rfl
theorem RW(F:Str->PV){ks:List Str}(nd:ks.Nodup)(hl:ks.length<=1000){Q:PV->Prop}(q:Q (.dk (ks.map λc=>((.inr c:Key),F c)))):∃ ps,fH (ks.map λc=>PV.tup [.str c,F c])=some ps/\∃ x,dz (.dk []) ps=some x/\Q x:=
 ⟨_,Av F ks,_,Gs F (ks:=ks) (done:=[]) (by simpa using nd) (by simpa using hl),q⟩
theorem Aw{tg:PV->Rho->Option Rho}{el:Fn PV}{ρb:Rho}(g F:α->PV):∀ (l:List α),(∀ a∈l,∃ ρ1,tg (g a) ρb=some ρ1/\Tv (el ρ1) λp=>p=F a)->eZ tg lX el ρb (l.map g)=some (.ok (l.map F))
 |[],_=>rfl
 |a::l,h=>by
  obtain⟨ρ1,e1,e2⟩:=h a List.mem_cons_self;have ih:=Aw g F l λb hb=>h b (List.mem_cons_of_mem _ hb);rw[Zas,eZ,e1];simp only[lX,bnd,Zb3,uN e2,ih,Zas]
end
theorem Ax(F:Str->PV)(ks:List Str):fV (ks.map λc=>((.inr c:Key),F c))=ks.map λc=>PV.tup [.str c,F c]:=by
 unfold fV;rw[ZbH];rfl
theorem Pu(F:Str->PV)(ks:List Str):ut (ks.map λc=>((.inr c:Key),F c))=ks.map PV.str:=by
 unfold ut;rw[ZbH];rfl
def prs(f:Nat->Nat->Str)(w i j:Nat):List (Str×(Int×Int)):=((List.range i).flatMap λr=>(List.range w).map λc=>(f c r,((c:Int),(r:Int))))++(List.range j).map λc=>(f c i,((c:Int),(i:Int)))
theorem Gu(f:Nat->Nat->Str)(w i:Nat):prs f w (i+1) 0=prs f w i w:=by
 unfold prs;rw[List.range_succ,List.flatMap_append];simp
theorem Ay(f:Nat->Nat->Str)(w i j:Nat):prs f w i (j+1)=prs f w i j++[(f j i,((j:Int),(i:Int)))]:=by
 unfold prs;rw[List.range_succ,ZaM,<-Zau];rfl
theorem qJ(f:Nat->Nat->Str)(w:Nat):∀ i j:Nat,(prs f w i j).length=i*w+j
 |0,j=>by unfold prs;simp
 |i+1,0=>by rw[Gu,qJ f w i w,Nat.succ_mul,Nat.add_zero]
 |i+1,j+1=>by rw[Ay,List.length_append,qJ f w (i+1) j];simp;omega
theorem ou{f:Nat->Nat->Str}{w h:Nat}{s:Str}{a:Int×Int}:(s,a)∈prs f w h 0↔∃ c r:Nat,c<w/\r<h/\s=f c r/\a=((c:Int),(r:Int)):=by
 unfold prs;rw[Zad,List.mem_flatMap];constructor
 ·rintro(⟨r,hr,hm⟩|hm)
  ·obtain⟨c,hc,e⟩:=ZaQ.mp hm;cases e;exact⟨c,r,ZaR.mp hc,ZaR.mp hr,rfl,rfl⟩
  ·simp at hm
 ·rintro⟨c,r,hc,hr,rfl,rfl⟩;exact .inl ⟨r,ZaR.mpr hr,ZaQ.mpr ⟨c,ZaR.mpr hc,rfl⟩⟩
theorem tV{w i j:Nat}(hw:w<=24)(hi:i<=24)(hj:j<=24):i*w+j<=600:=by
 have:i*w<=24*24:=Nat.mul_le_mul hi hw;omega
theorem RX{w h:Nat}(hw:w<=24)(hh:h<=24)(f:Nat->Nat->Str):dZ [dq w h f]=some (.ok (.dk (grp cellP (prs f w h 0)))):=by
 refine O2 (x:=dY (startR [dq w h f] 5)) ?_;refine mF λQE hE=>?_;unfold dY dq;walk_at "rd"
 simp only[Gf];walk_at "rd"
 refine⟨rfl,?_⟩;refine Af (λi ρ=>∃ v2 v3 v4 v5,ρ=[some (.sh (dq w h f)),some (.dp (.dk (grp cellP (prs f w i 0)))),v2,v3,v4,v5]) ⟨none,none,none,none,rfl⟩ ?_ ?_
 ·rintro i x ρ hx ⟨v2,v3,v4,v5,rfl⟩;rw[Zae] at hx;have hi:i<h:=by
   rcases ZbL i h with q|q
   ·exact q
   ·rw[Zat (by rw[List.length_range];exact q)] at hx;cases hx
  rw[ZaI hi] at hx;cases hx;refine jr λQS hQ=>?_;unfold iw;walk_at "rd"
  refine Af (λj ρ=>∃ v4 v5,ρ=[some (.sh (dq w h f)),some (.dp (.dk (grp cellP (prs f w i j)))),some (.sh (.int (i:Int))),some (.sh (.lst ((List.range w).map λc=>.str (f c i)))),v4,v5]) ⟨_,_,rfl⟩ ?_ ?_
  ·rintro j x ρ hx ⟨v4,v5,rfl⟩;rw[Zae] at hx;have hj:j<w:=by
    rcases ZbL j w with q|q
    ·exact q
    ·rw[Zat (by rw[List.length_range];exact q)] at hx;cases hx
   rw[ZaI hj] at hx;cases hx;refine jr λQS hQ=>?_;have sm:=tV hw (show i<=24 by omega) (show j<=24 by omega)
   have pl:=qJ f w i j;unfold iu;refine uW rfl ?_ (kp:=.str (f j i)) (q:=.tup [.int (j:Int),.int (i:Int)]) rfl rfl (Pk _ _ _) ?_ rfl ?_ (hQ _ ⟨some (.sh (.int (j:Int))),some (.sh (.str (f j i))),?_⟩)
   ·unfold grp;rw[List.length_map];have:=Dl (prs f w i j);exact aX (by omega)
   ·refine uN ?_;walk_at "rd"
    decide
   ·rw[List.length_map];have:=RV (prs f w i j) (f j i);exact aX (by omega)
   ·rw[Ay,<-Pn];rfl
  ·rintro ρ ⟨v4,v5,rfl⟩;rw[List.length_map,List.length_range];exact hQ _ ⟨_,_,_,_,by rw[Gu]⟩
 ·rintro ρ ⟨v2,v3,v4,v5,rfl⟩;rw[List.length_map,List.length_range];unfold iy;walk_at "rd"
  exact hE _ rfl
theorem Ls{w h:Nat}(w0:1<=w)(h0:1<=h)(hw:w<=24)(hh:h<=24)(f:Nat->Nat->Str):eU [dq w h f]=some (.ok (.dk ((kys (prs f w h 0)).map λc=>((.inr c:Key),.int ((Mth.qY w (sel (prs f w h 0) c):Nat):Int))))):=by
 have ec:=RX hw hh f;have ez:=HW (w:=w) (h:=h) f h0;have big:∀ {n:Nat},n<=1000->n<=sizeLine:=λh=>ZaJ (aX h);have sm:=tV hw hh (show 0<=24 by decide)
 have kl:=Dl (prs f w h 0);rw[qJ] at kl;generalize hp:dq w h f=pp at ec ez ⊢
 refine tR (x:=eQ (startR [pp] 1)) ?_;refine mF λQE hE=>?_;unfold eQ;walk_at "rd"
 rw[ez];walk_at "rd"
 rw[ec];walk_at "rd"
 unfold grp;rw[Ax (λc=>.lst ((sel (prs f w h 0) c).map cellP))];refine⟨by rw[List.length_map];exact big (by omega),?_⟩
 rw[Aw (λc=>PV.tup [.str c,.lst ((sel (prs f w h 0) c).map cellP)]) (λc=>.tup [.str c,.int ((Mth.qY w (sel (prs f w h 0) c):Nat):Int)]) _ λc hc=>?_]
 ·walk_at "rd"
  exact RW (λc=>.int ((Mth.qY w (sel (prs f w h 0) c):Nat):Int)) (Lq _) (by omega) (hE _ rfl)
 ·refine⟨_,rfl,?_⟩;walk_at "rd"
  rw[HS (w:=(w:Int)) (h:=(h:Int)) ⟨by omega,by omega,by omega,by omega⟩ _ λa ha=>?_]
  ·walk_at "rd"
   exact⟨by decide,rfl⟩
  ·obtain⟨c,r,h1,h2,_,rfl⟩:=ou.mp (tU.mp ha);exact⟨by omega,by omega,by omega,by omega⟩
def orN(S:Str->Nat)(ch:Str->List Nat)(k:Nat)(ks:List Str):Nat:=(ks.filter λc=>decide (k∈ch c)).foldl (λn c=>n ||| S c) 0
theorem Az(S:Str->Nat)(ch:Str->List Nat)(k:Nat)(ks:List Str)(c:Str):orN S ch k (ks++[c])=if k∈ch c then orN S ch k ks ||| S c else orN S ch k ks:=by
 unfold orN;rw[List.filter_append];split
 ·rename_i h;rw[ZbT (by simpa using h),ZbE,List.foldl_append]
  rfl
 ·rename_i h;rw[ZbU (by simpa using h),ZbE,ZaS]
theorem RZ(S:Str->Nat)(ch:Str->List Nat)(k i:Nat)(ks:List Str):(orN S ch k ks).testBit i=true↔∃ c∈ks,k∈ch c/\(S c).testBit i=true:=by
 induction ks using snocInd with
 |nil=>unfold orN;simp
 |snoc ks c ih=>
  rw[Az];split
  ·rename_i h;rw[Nat.testBit_or,Bool.or_eq_true,ih];constructor
   ·rintro(⟨d,h1,h2⟩|h2)
    ·exact⟨d,Zad.mpr (.inl h1),h2⟩
    ·exact⟨c,by simp,h,h2⟩
   ·rintro⟨d,h1,h2,h3⟩;rcases Zad.mp h1 with h1|h1
    ·exact .inl ⟨d,h1,h2,h3⟩
    ·rw[Zai.mp h1] at h3;exact .inr h3
  ·rename_i h;rw[ih];constructor
   ·rintro⟨d,h1,h2⟩;exact⟨d,Zad.mpr (.inl h1),h2⟩
   ·rintro⟨d,h1,h2,h3⟩;rcases Zad.mp h1 with h1|h1
    ·exact⟨d,h1,h2,h3⟩
    ·rw[Zai.mp h1] at h2;exact absurd h2 h
theorem Lw(k:Nat)(s:List Nat):inU (.int (k:Int)) (stP s)=some (decide (k∈s)):=
 Ga (g:=λ(n:Nat)=>PV.int (n:Int)) (λa b=>by rw[eqF_int];congr 1;exact decide_eq_decide.mpr ⟨λe=>Int.ofNat.inj e,λe=>by rw[e]⟩) k s
theorem Ba{ks:List Str}(S:Str->Nat)(ch:Str->List Nat){d:List (Key×PV)}(hd:∀ c∈ks,bZ d (.inr c)=some (stP (ch c)))(k:Nat) :
  lq [.dk (ks.map λc=>((.inr c:Key),.int (S c:Int))),.dk d,.int (k:Int)]=some (.ok (.int (orN S ch k ks:Int))):=by
 refine mG (x:=lg (startR [.dk (ks.map λc=>((.inr c:Key),.int (S c:Int))),.dk d,.int (k:Int)] 2)) ?_;refine mF λQE hE=>?_;unfold lg;walk_at "rd"
 rw[Pu (λc=>.int (S c:Int))];refine cP (λi ρ=>∃ v4,ρ=[some (.sh (.dk (ks.map λc=>((.inr c:Key),.int (S c:Int))))),some (.sh (.dk d)),some (.sh (.int (k:Int))),some (.sh (.int (orN S ch k (ks.take i):Int))),v4]) ⟨_,rfl⟩ ?_ ?_
 ·rintro i x ρ hx ⟨v4,rfl⟩;rw[Zae] at hx;cases hc:ks[i]? with
  |none=>rw[hc] at hx;cases hx
  |some c=>
   rw[hc] at hx;cases hx;have hm:=ZaE hc;refine Ug λQS hQ _ _ _ _=>?_;unfold qt;walk_at "rd"
   refine⟨_,hd c hm,_,Lw _ _,?_⟩;rw[take_snoc hc,Az] at hQ;refine t7 (λh=>?_) λh=>?_
   ·rw[Zbb] at h;rw[Zal h] at hQ;unfold qp;walk_at "rd"
    rw[lB,Zal hm];refine⟨_,rfl,?_⟩;walk_at "rd"
    rw[wR];exact hQ _ ⟨_,rfl⟩
   ·rw[Zbb] at h;rw[Zak h] at hQ;exact hQ _ ⟨_,rfl⟩
 ·rintro ρ ⟨v4,rfl⟩;rw[List.length_map,List.take_length];show To _ _
  unfold qu;walk_at "rd"
  exact hE _ rfl
def m9(w h:Nat)(f:Nat->Nat->Str)(n:Nat)(ch:Str->List Nat):List Nat:=(List.range n).map λk=>orN (λc=>Mth.qY w (sel (prs f w h 0) c)) ch k (kys (prs f w h 0))
theorem yu{w h:Nat}(w0:1<=w)(h0:1<=h)(hw:w<=24)(hh:h<=24)(f:Nat->Nat->Str){paper:Str}{inks:List Ink}(h8:inks.length<=8)(ch:Str->List Nat){d:List (Key×PV)}(hd:∀ c∈kys (prs f w h 0),bZ d (.inr c)=some (stP (ch c))) :
  gO [bnP paper inks,dq w h f,.dk d]=some (.ok (jy (m9 w h f inks.length ch))):=by
 have es:=Ls w0 h0 hw hh f;have big:∀ {n:Nat},n<=1000->n<=sizeLine:=λh=>ZaJ (aX h);generalize hp:dq w h f=pp at es ⊢
 refine tR (x:=jt (startR [bnP paper inks,pp,.dk d] 1)) ?_;refine mF λQE hE=>?_;unfold jt bnP;walk_at "rd"
 rw[es];walk_at "rd"
 rw[List.length_map];refine⟨by omega,by omega,by rw[bQ];exact big (by omega),?_⟩
 rw[Al,ZaZ,oh (λi=>PV.int ((i:Nat):Int)) (λk=>.int ((orN (λc=>Mth.qY w (sel (prs f w h 0) c)) ch k (kys (prs f w h 0)):Nat):Int)) _ λk hk=>?_]
 ·walk_at "rd"
  refine hE _ ?_;unfold jy m9;rw[ZbH];rfl
 ·walk_at "rd"
  rw[Ba (λc=>Mth.qY w (sel (prs f w h 0) c)) ch hd k];walk_at "rd"
theorem yw:∀ {n:Nat}{s:List Nat},s.Pairwise (·<·)->(∀ x∈s,x<n)->s∈stk n
 |0,s,_,h=>by
  cases s with
  |nil=>simp[stk]
  |cons a l=>exact absurd (h a List.mem_cons_self) (by omega)
 |n+1,s,p,h=>by
  rw[stk,Zad];rcases List.eq_nil_or_concat s with rfl|⟨t,a,rfl⟩
  ·exact .inl (yw .nil λx hx=>nomatch hx)
  ·rw[List.concat_eq_append] at p h ⊢;rw[Zap] at p;have ha:=h a (by simp)
   have ht:∀ x∈t,x<a:=λx hx=>p.2.2 x hx a (by simp)
   by_cases e:a=n
   ·subst e;exact .inr (ZaQ.mpr ⟨t,yw p.1 ht,rfl⟩)
   ·refine .inl (yw ?_ λx hx=>?_)
    ·rw[Zap];exact p
    ·rcases Zad.mp hx with hx|hx
     ·have:=ht x hx;omega
     ·rw[Zai.mp hx];omega
theorem R4{w h:Nat}{f:Nat->Nat->Str}{n:Nat}{ch:Str->List Nat}{k i:Nat}(hk:k<n):((m9 w h f n ch).getD k 0).testBit i=true↔∃ c r:Nat,c<w/\r<h/\k∈ch (f c r)/\r*w+c=i:=by
 unfold m9;rw[Zag,Zae,ZaI hk];show(orN _ ch k _).testBit i=true↔_
 rw[RZ];constructor
 ·rintro⟨s,hs,h1,h2⟩;rw[Mth.Ej,Zbb] at h2;obtain⟨a,ha,e⟩:=h2;obtain⟨c,r,hc,hr,rfl,rfl⟩:=ou.mp (tU.mp ha);exact⟨c,r,hc,hr,h1,e⟩
 ·rintro⟨c,r,hc,hr,h1,e⟩;have hm:=(ou (f:=f)).mpr ⟨c,r,hc,hr,rfl,rfl⟩;refine⟨f c r,yt.mpr ⟨_,hm⟩,h1,?_⟩;rw[Mth.Ej,Zbb];exact⟨_,tU.mpr hm,e⟩
theorem yx(w h:Nat)(f:Nat->Nat->Str)(n:Nat)(ch:Str->List Nat):(m9 w h f n ch).length=n:=by unfold m9;rw[List.length_map,List.length_range]
def rwP(row:List Str):PV:=.lst (row.map .str)
theorem Lx{w:Nat}{rows:List (List Str)}(h:∀ r∈rows,r.length=w):PV.lst (rows.map rwP)=dq w rows.length λc r=>(rows.getD r []).getD c noStr:=by
 unfold dq;congr 1
 apply Zbj
 intro r;rw[Zae,Zae];by_cases hr:r<rows.length
 ·rw[Zaa hr,ZaI hr];show some (rwP rows[r])=some (PV.lst ((List.range w).map λc=>.str ((rows.getD r []).getD c noStr)))
  have hl:=h rows[r] (Zbq hr);rw[Zag,Zaa hr];unfold rwP;congr 2
  apply Zbj
  intro c;rw[Zae,Zae];by_cases hc:c<w
  ·rw[Zaa (by omega),ZaI hc]
   show some (PV.str _)=some (PV.str ((rows[r]).getD c noStr))
   rw[Zag,Zaa (by omega)]
   rfl
  ·rw[Zat (by omega),Zat (by rw[List.length_range];omega)]
   rfl
 ·rw[Zat (by omega),Zat (by rw[List.length_range];omega)]
  rfl
theorem Dm(z:Int):∃ w h:Nat,gP [.int z]=some (.ok (.tup [.int (w:Int),.int (h:Int)]))/\1<=w/\w<=24/\1<=h/\h<=24:=by
 suffices g:∃ p,gP [.int z]=some (.ok p)/\∃ w h:Nat,p=.tup [.int (w:Int),.int (h:Int)]/\1<=w/\w<=24/\1<=h/\h<=24 by
  obtain⟨p,e,w,h,rfl,g⟩:=g;exact⟨w,h,e,g⟩
 have m:∀ (x k:Int),0<k->0<=x%k/\x%k<k:=λx k h=>⟨Za1 _ (Int.ne_of_gt h),ZaP _ h⟩;refine mH (x:=jw (startR [.int z] 0)) ?_;unfold jw;walk_at "rd"
 refine⟨by decide,t7 (λ_=>?_) λ_=>?_⟩
 ·have a:=m (z/9) 24 (by decide)
  have b:=m (z/300) 24 (by decide)
  unfold oH;walk_at "rd"
  refine⟨by decide,by decide,by decide,by decide,by decide,by decide,by decide,(1+z/9%24).toNat,(1+z/300%24).toNat,?_⟩
  rw[ZbC (by omega),ZbC (by omega)]
  exact⟨rfl,by omega,by omega,by omega,by omega⟩
 ·have a:=m (z/9) 6 (by decide)
  have b:=m (z/70) 5 (by decide)
  unfold oJ;walk_at "rd"
  refine⟨by decide,by decide,by decide,by decide,by decide,by decide,by decide,(1+z/9%6).toNat,(1+z/70%5).toNat,?_⟩
  rw[ZbC (by omega),ZbC (by omega)]
  exact⟨rfl,by omega,by omega,by omega,by omega⟩
theorem Bb(ns:List Int)(k at_:Int)(k0:0<=k)(a0:0<=at_)(a1:at_<=900):∃ c n:Int,bD [.lst (ns.map .int),.int k]=some (.ok (.int c))/\bF [.lst (ns.map .int),.int k,.int at_]=some (.ok (.int n))/\0<=n/\((if c<0 then -c else c)<10^18->n<10^30+57):=by
 obtain⟨c,ec⟩:=lz ns k k0
 suffices h:∃ p,bF [.lst (ns.map .int),.int k,.int at_]=some (.ok p)/\∃ n:Int,p=.int n/\0<=n/\((if c<0 then -c else c)<10^18->n<10^30+57) by
  obtain⟨p,e,n,rfl,h⟩:=h;exact⟨c,n,ec,e,h⟩
 refine mH (x:=dJ (startR [.lst (ns.map .int),.int k,.int at_] 1)) ?_;unfold dJ;walk_at "rd"
 rw[ec];walk_at "rd"
 generalize hc:(if c<0 then -c else c)=d
 have d0:0<=d:=by rw[<-hc];split<;>omega
 obtain⟨n1,e1,l1⟩:=qH d at_ a0 (by omega)
 obtain⟨n,e2,l2⟩:=qH (n1:Int) (at_+1) (by omega) (by omega)
 refine⟨by decide,by decide,by decide,t7 (λh=>?_) (λh=>?_)⟩
 ·unfold gY;walk_at "rd"
  exact⟨d0,λq=>absurd q (Int.not_lt.mpr h)⟩
 ·unfold gZ;walk_at "rd"
  rw[e1];walk_at "rd"
  rw[e2];walk_at "rd"
  exact⟨Int.natCast_nonneg _,λ_=>by omega⟩
structure Dr(n m:Int):Prop where
 n0:0<=n
 m01:m=0\/m=1
 nb:m=1->n<10^30+58
inductive PiI(ns:List Int)(some_:List Str)(w h i:Nat):Nat->Rho->Prop
 |mk (rows:List (List Str)) (line:List Str) (n m:Int) (v8 v10:Option Sl) (j:Nat) (d:Dr n m) (rl:rows.length=i) (rw_:∀ r∈rows,r.length=w/\∀ s∈r,s∈some_) (ll:line.length=j) (ls:∀ s∈line,s∈some_) :
  PiI ns some_ w h i j [some (.sh (.lst (ns.map .int))),some (.sh (.int 11)),some (.sh (.lst (some_.map .str))),some (.sh (.int (w:Int))),some (.sh (.int (h:Int))),some (.sh (.int n)),some (.sh (.int m)),some (.ow (.lst (rows.map rwP))),some (.sh (.int (i:Int))),some (.ow (.lst (line.map .str))),v10]
inductive PiO(ns:List Int)(some_:List Str)(w h:Nat):Nat->Rho->Prop
 |mk (rows:List (List Str)) (n m:Int) (v8 v9 v10:Option Sl) (i:Nat) (d:Dr n m) (rl:rows.length=i) (rw_:∀ r∈rows,r.length=w/\∀ s∈r,s∈some_) :
  PiO ns some_ w h i [some (.sh (.lst (ns.map .int))),some (.sh (.int 11)),some (.sh (.lst (some_.map .str))),some (.sh (.int (w:Int))),some (.sh (.int (h:Int))),some (.sh (.int n)),some (.sh (.int m)),some (.ow (.lst (rows.map rwP))),v8,v9,v10]
theorem Bc(ns:List Int)(some_:List Str)(s0:some_≠[])(sl:some_.length<=300):∃ (w h:Nat) (f:Nat->Nat->Str),d9 [.lst (ns.map .int),.int 11,.lst (some_.map .str)]=some (.ok (dq w h f))/\1<=w/\w<=24/\1<=h/\h<=24/\∀ c r,c<w->r<h->f c r∈some_:=by
 suffices g:∃ p,d9 [.lst (ns.map .int),.int 11,.lst (some_.map .str)]=some (.ok p)/\∃ (w:Nat) (rows:List (List Str)),p=.lst (rows.map rwP)/\1<=w/\w<=24/\1<=rows.length/\rows.length<=24/\∀ r∈rows,r.length=w/\∀ s∈r,s∈some_ by
  obtain⟨p,e,w,rows,rfl,a1,a2,a3,a4,a5⟩:=g;rw[Lx λr hr=>(a5 r hr).1] at e;refine⟨w,rows.length,_,e,a1,a2,a3,a4,λc r hc hr=>?_⟩;have:=a5 rows[r] (Zbq hr);have er:rows.getD r []=rows[r]:=by rw[Zag,Zaa hr];rfl
  rw[er];have hc:c<rows[r].length:=by omega
  rw[Zag,Zaa hc];exact this.2 _ (Zbq hc)
 have big:∀ {n:Nat},n<=1000->n<=sizeLine:=λh=>ZaJ (aX h);have sp:0<some_.length:=by cases some_ with|nil=>exact absurd rfl s0|cons=>simp
 obtain⟨c11,ec⟩:=lz ns 11 (by decide)
 obtain⟨w,h,ez,w0,w1,h0,h1⟩:=Dm (c11%10^9);obtain⟨c,n,ec2,en,n0,nb⟩:=Bb ns 12 11 (by decide) (by decide) (by decide)
 refine FZ (x:=fX (startR [.lst (ns.map .int),.int 11,.lst (some_.map .str)] 8)) ?_;refine mF λQE hE=>?_;unfold fX;walk_at "rd"
 rw[ec];walk_at "rd"
 rw[ez];walk_at "rd"
 rw[en];walk_at "rd"
 rw[ec2];walk_at "rd"
 refine⟨by decide,by decide,by decide,by decide,by decide,by decide,by decide,by omega,by omega,?_⟩
 obtain⟨m,hm⟩:∃ m:Int,(if(if c<0 then -c else c)<10^18 then(1:Int) else 0)=m:=⟨_,rfl⟩;have d0:Dr n m:=by
  by_cases q:(if c<0 then -c else c)<10^18
  ·rw[Zal q] at hm;subst hm;exact⟨n0,.inr rfl,λ_=>by have:=nb q;omega⟩
  ·rw[Zak q] at hm;subst hm;exact⟨n0,.inl rfl,λe=>by cases e⟩
 rw[hm];refine cP (PiO ns some_ w h) (.mk [] n m none none none 0 d0 rfl (λr hr=>nomatch hr)) ?_ ?_
 ·rintro i x ρ hx ⟨rows,n,m,v8,v9,v10,_,d,rl,rw_⟩;obtain⟨hi,rfl⟩:=jx hx;refine jr λQS hQ=>?_;rw[Int.zero_add];unfold jT;walk_at "rd"
  refine⟨by omega,by omega,?_⟩
  refine cP (PiI ns some_ w h i) (.mk rows [] n m none v10 0 d rl rw_ rfl (λs hs=>nomatch hs)) ?_ ?_
  ·rintro j x ρ hx ⟨rows,line,n,m,v8,v10,_,d,rl,rw_,ll,ls⟩;obtain⟨hj,rfl⟩:=jx hx;refine jr λQS hQ=>?_;rw[Int.zero_add];have last:∀ (n m:Int),Dr n m->To (gq [some (.sh (.lst (ns.map .int))),some (.sh (.int 11)),some (.sh (.lst (some_.map .str))),some (.sh (.int (w:Int))),some (.sh (.int (h:Int))),some (.sh (.int n)),some (.sh (.int m)),some (.ow (.lst (rows.map rwP))),some (.sh (.int (i:Int))),some (.ow (.lst (line.map .str))),some (.sh (.int (j:Int)))]) QS:=λn m d=>by
    have m0:0<1+999*m:=by rcases d.m01 with rfl|rfl<;>decide
    have mb:(1:Int)+999*m<1073741824:=by rcases d.m01 with rfl|rfl<;>decide
    have mz:m.natAbs<2^9000:=by
     rcases d.m01 with rfl|rfl
     ·exact lA (by decide) (by decide +kernel)
     ·exact lA (by decide) (by decide +kernel)
    obtain⟨y,ey,hy,_⟩:=uT (cs:=some_) (i:=n/(1+999*m)%(some_.length:Int)) (Za1 _ (by omega)) (ZaP _ (by omega))
    unfold gq;walk_at "rd"
    rw[List.length_map];refine⟨lA (by decide) (by decide +kernel),mz,m0,mb,by omega,_,ey,by rw[List.length_map];exact aX (by omega),?_⟩
    have ll':(line++[y]).length=j+1:=by rw[List.length_append,ll];rfl
    have ls':∀ s∈line++[y],s∈some_:=λs hs=>by
     rcases Zad.mp hs with q|q
     ·exact ls s q
     ·rw[Zai.mp q];exact hy
    rw[show line.map PV.str++[PV.str y]=(line++[y]).map PV.str by rw[ZaM];rfl]
    refine t7 (λq=>?_) λq=>?_
    ·unfold jP;walk_at "rd"
     rw[List.length_map];exact⟨by omega,by omega,hQ _ (.mk rows (line++[y]) _ m none _ (j+1) ⟨Int.ediv_nonneg d.n0 (by omega),d.m01,λe=>by rw[e] at q;cases q⟩ rl rw_ ll' ls')⟩
    ·exact hQ _ (.mk rows (line++[y]) _ m none _ (j+1) d rl rw_ ll' ls')
   have mid:∀ (n m:Int),Dr n m->To (gr [some (.sh (.lst (ns.map .int))),some (.sh (.int 11)),some (.sh (.lst (some_.map .str))),some (.sh (.int (w:Int))),some (.sh (.int (h:Int))),some (.sh (.int n)),some (.sh (.int m)),some (.ow (.lst (rows.map rwP))),some (.sh (.int (i:Int))),some (.ow (.lst (line.map .str))),some (.sh (.int (j:Int)))]) QS:=λn m d=>by
    unfold gr;walk_at "rd"
    refine t7 (λq=>?_) λq=>last n m d;subst q;have nb:=d.nb rfl;have nz:n<10^250:=Int.lt_trans nb (by decide +kernel)
    unfold jO;walk_at "rd"
    have r0:0<=n*48271%(10^30+57):=Za1 _ (by decide)
    have r1:n*48271%(10^30+57)<10^30+57:=ZaP _ (by decide)
    exact⟨lA d.n0 nz,lA (by decide) (by decide +kernel),by decide,by decide,by decide,by decide,last _ 1 ⟨by omega,.inr rfl,λ_=>by omega⟩⟩
   unfold jQ;walk_at "rd"
   split
   ·rename_i q;subst q;refine t7 (λq=>?_) λq=>mid n 0 d;obtain⟨n1,e1,l1⟩:=qH (i:Int) (j:Int) (by omega) (by omega)
    unfold jN;walk_at "rd"
    rw[e1];walk_at "rd"
    exact mid _ 1 ⟨Int.natCast_nonneg _,.inr rfl,λ_=>by omega⟩
   ·exact mid n m d
  ·rintro ρ ⟨rows,line,n,m,v8,v10,_,d,rl,rw_,ll,ls⟩;rw[bQ,ZaZ] at ll;show To _ _
   unfold jR;walk_at "rd"
   rw[Lf rfl];walk_at "rd"
   refine⟨by rw[List.length_map];exact aX (by omega),hQ _ ?_⟩
   rw[show rows.map rwP++[PV.lst (line.map PV.str)]=(rows++[line]).map rwP by rw[ZaM];rfl]
   refine .mk (rows++[line]) n m _ _ _ (i+1) d (by rw[List.length_append,rl];rfl) λr hr=>?_
   rcases Zad.mp hr with q|q
   ·exact rw_ r q
   ·rw[Zai.mp q];exact⟨ll,ls⟩
 ·rintro ρ ⟨rows,n,m,v8,v9,v10,_,d,rl,rw_⟩;rw[bQ,ZaZ] at rl;show To _ _
  unfold jU;walk_at "rd"
  exact hE _ ⟨_,rfl,w,rows,rfl,w0,w1,by omega,by omega,rw_⟩
structure Ch(inks:List Ink)(paper:Str)(ks:List Str)(ch:Str->List Nat):Prop where
 ok:∀ c∈ks,ch c∈shw inks paper (srt inks.length) c
theorem Dn{F G:Str->PV}{ks:List Str}{k:Str}(h:k ∉ ks)(e:∀ c∈ks,G c=F c):jd (ks.map λc=>((.inr c:Key),F c)) (.inr k) (G k)=(ks++[k]).map λc=>((.inr c:Key),G c):=by
 rw[u0 (by rw[lB,Zak h]),ZaM]
 congr 1
 exact Zbf λc hc=>by rw[e c hc]
theorem Ly(n:Nat)(s:List Nat):eqF (n+1) (stP s) (stP s)=some true:=by
 refine ji λx hx=>?_;obtain⟨k,_,rfl⟩:=ZaQ.mp hx;exact Ak _ _
theorem Lz(n w h:Nat)(f:Nat->Nat->Str):eqF (n+2) (dq w h f) (dq w h f)=some true:=by
 refine m8 λx hx=>?_;obtain⟨r,_,rfl⟩:=ZaQ.mp hx;refine m8 λx hx=>?_;obtain⟨c,_,rfl⟩:=ZaQ.mp hx;exact jj _ _
theorem Ig{paper:Str}{inks:List Ink}{cols:List Str}(b:B17 paper inks cols){s:List Nat}(hs:∀ n∈s,n<inks.length):bW inks paper s∈cols:=by
 induction s using snocInd with
 |nil=>exact b.pp
 |snoc s n ih=>
  have ih:=ih λk hk=>hs k (Zad.mpr (.inl hk));have hn:=hs n (by simp)
  have ik:=b.ok (inks.getD n rU) (by rw[Zag,Zaa hn];exact Zbq hn)
  have e:bW inks paper (s++[n])=Dh (inks.getD n rU) (bW inks paper s):=by
   unfold bW;rw[List.foldl_append];rfl
  rw[e];generalize bW inks paper s=c at ih
  cases hi:inks.getD n rU with
  |cov a d=>rw[hi] at ik;exact ik
  |glz a ps=>
   rw[hi] at ik;show lkp ps c∈cols
   unfold lkp;cases e:ps.find? (λp=>decide (p.1=c)) with
   |none=>exact ih
   |some p=>exact(ik.2.2.1 p (List.mem_of_find?_eq_some e)).2
theorem Bd:∀ {l m:List Str},l.Nodup->(∀ x∈l,x∈m)->l.length<=m.length
 |[],m,_,_=>Zba _
 |a::l,m,nd,h=>by
  obtain⟨n1,n2⟩:=Zbg.mp nd;obtain⟨s,t,rfl⟩:=List.append_of_mem (h a List.mem_cons_self);have:=Bd (l:=l) (m:=s++t) n2 λx hx=>by
   rcases Zad.mp (h x (List.mem_cons_of_mem _ hx)) with q|q
   ·exact Zad.mpr (.inl q)
   ·rcases Zay.mp q with rfl|q
    ·exact absurd hx n1
    ·exact Zad.mpr (.inr q)
  simp only[List.length_append,ZaN] at this ⊢;omega
theorem u5:∀ ys:List Str,lY (ys.map PV.str)=some ys
 |[]=>rfl
 |y::ys=>by rw[Zas,lY,u5 ys];rfl
theorem Ii{ks:List Str}(h1:ks.length<=1000)(h2:(ddT ks).length<64):jf (ks.map PV.str)=some (.ok (.lst ((sS (ddT ks)).map .str))):=by
 unfold jf;rw[u5];simp only[Zal (And.intro h1 h2)]
theorem Px{paper:Str}{inks:List Ink}{cols:List Str}(b:B17 paper inks cols):∃ some_:List Str,jf ((srt inks.length).map λs=>PV.str (bW inks paper s))=some (.ok (.lst (some_.map .str)))/\some_≠[]/\some_.length<=300/\(∀ c,c∈some_↔shw inks paper (srt inks.length) c≠[])/\∀ c∈some_,c∈cols:=by
 have h8:=b.n1;have sl:(srt inks.length).length<=256:=by rw[(gK _).length_eq];exact qI h8
 obtain⟨ks,hks⟩:∃ ks,(srt inks.length).map (λs=>bW inks paper s)=ks:=⟨_,rfl⟩;have e:(srt inks.length).map (λs=>PV.str (bW inks paper s))=ks.map PV.str:=by rw[<-hks,ZbH];rfl
 have hm:∀ c,c∈ks↔shw inks paper (srt inks.length) c≠[]:=λc=>by
  rw[<-hks,ZaQ];constructor
  ·rintro⟨s,h1,h2⟩ z;have:s∈shw inks paper (srt inks.length) c:=ZbA.mpr ⟨h1,ZaD h2⟩;rw[z] at this;cases this
  ·intro z;obtain⟨s,hs⟩:=List.exists_mem_of_ne_nil _ z;obtain⟨h1,h2⟩:=ZbA.mp hs;exact⟨s,h1,Zbc h2⟩
 have hc:∀ c∈ks,c∈cols:=λc hc=>by
  rw[<-hks] at hc;obtain⟨s,h1,rfl⟩:=ZaQ.mp hc;exact Ig b (rM ((gK _).mem_iff.mp h1))
 have dl:=Bd (nY ks) λc hx=>hc c (nW.mp hx);have c1:=b.c1;have sm:∀ c,c∈sS (ddT ks)↔c∈ks:=λc=>(nU _).mem_iff.trans nW;refine⟨sS (ddT ks),?_,λz=>?_,by rw[(nU _).length_eq];omega,λc=>(sm c).trans (hm c),λc h=>hc c ((sm c).mp h)⟩
 ·rw[e];exact Ii (by rw[<-hks,List.length_map];omega) (by omega)
 ·have:paper∈sS (ddT ks):=(sm _).mpr (by
   rw[<-hks];exact ZaQ.mpr ⟨[],(gK _).mem_iff.mpr (yw .nil λx hx=>nomatch hx),rfl⟩)
  rw[z] at this;cases this
theorem Py{w h:Nat}{f:Nat->Nat->Str}(h0:1<=h){Q:PV->Prop}:Tv (fQ (dq w h f) (.int 0)) Q=Q (.lst ((List.range w).map λc=>.str (f c 0))):=by
 unfold dq;rw[tv_ixL];have e0:atI ((List.range h).map λr=>PV.lst ((List.range w).map λc=>.str (f c r))) ((0:Nat):Int)=some (PV.lst ((List.range w).map λc=>.str (f c 0))):=gB (by rw[Zae,ZaI h0];rfl)
 have e0:atI ((List.range h).map λr=>PV.lst ((List.range w).map λc=>.str (f c r))) 0=some (PV.lst ((List.range w).map λc=>.str (f c 0))):=e0;rw[e0];exact propext ⟨λ⟨p,e,q⟩=>by cases e;exact q,λq=>⟨_,rfl,q⟩⟩
theorem Pz{w h:Nat}{f:Nat->Nat->Str}{Q:PV->Prop}:Tv (fj (dq w h f)) Q=Q (.int (h:Int)):=by
 unfold dq;rw[tv_lenL,List.length_map,List.length_range]
inductive CkI(ns:List Int)(bp:PV)(inks:List Ink)(paper:Str)(d0:List (Key×PV))(w h:Nat)(f:Nat->Nat->Str)(i:Nat)(v6:Option Sl):Nat->Rho->Prop
 |mk (ch:Str->List Nat) (v4 v7 v8 v9:Option Sl) (j:Nat) (c:Ch inks paper (kys (prs f w i j)) ch) :
  CkI ns bp inks paper d0 w h f i v6 j [some (.sh (.lst (ns.map .int))),some (.sh bp),some (.sh (dq w h f)),some (.sh (.dk d0)),v4,some (.ow (.dk ((kys (prs f w i j)).map λc=>((.inr c:Key),stP (ch c))))),v6,v7,v8,v9]
theorem vI(ns:List Int){paper:Str}{inks:List Ink}{cols:List Str}(b:B17 paper inks cols){w h:Nat}(hw:w<=24)(hh:h<=24)(f:Nat->Nat->Str)(hs:∀ c r,c<w->r<h->shw inks paper (srt inks.length) (f c r)≠[]) :
  ∃ ch:Str->List Nat,eE [.lst (ns.map .int),bnP paper inks,dq w h f]=some (.ok (.dk ((kys (prs f w h 0)).map λc=>((.inr c:Key),stP (ch c)))))/\Ch inks paper (kys (prs f w h 0)) ch:=by
 suffices g:∃ p,eE [.lst (ns.map .int),bnP paper inks,dq w h f]=some (.ok p)/\∃ ch:Str->List Nat,p=.dk ((kys (prs f w h 0)).map λc=>((.inr c:Key),stP (ch c)))/\Ch inks paper (kys (prs f w h 0)) ch by
  obtain⟨p,e,ch,rfl,g⟩:=g;exact⟨ch,e,g⟩
 have h8:=b.n1;have sl:(srt inks.length).length<=256:=by rw[(gK _).length_eq];exact qI h8
 refine FZ (x:=fY (startR [.lst (ns.map .int),bnP paper inks,dq w h f] 7)) ?_;refine mF λQE hE=>?_;unfold fY;rw[show bnP paper inks=.tup [.str paper,.lst (inks.map lL)] from rfl];walk_at "rd"
 simp only[Gf];walk_at "rd"
 refine⟨rfl,?_⟩;rw[show PV.tup [.str paper,.lst (inks.map lL)]=bnP paper inks from rfl,List.length_map,Gr h8];walk_at "rd"
 refine cP (λi ρ=>∃ d v4,ρ=[some (.sh (.lst (ns.map .int))),some (.sh (bnP paper inks)),some (.sh (dq w h f)),some (.dp (.dk d)),v4,none,none,none,none,none]/\ByC inks paper ((srt inks.length).take i) d) ⟨[],none,rfl,ByC.nil⟩ ?_ ?_
 ·rintro i x ρ hx ⟨d,v2,rfl,bc⟩;rw[Zae] at hx;cases hs:(srt inks.length)[i]? with
  |none=>rw[hs] at hx;cases hx
  |some s=>
   rw[hs] at hx;cases hx;have hm:=(gK _).mem_iff.mp (ZaE hs);refine jr λQS hQ=>?_;unfold jV;have dl:d.length<=256:=ZaX bc.1 (by rw[Zbw];omega)
   refine uW rfl (aX (by omega)) (kp:=.str (bW inks paper s)) (q:=stP s) ?_ rfl (bc.row _) rfl (Ie s) (by rw[List.length_map];have:(shw inks paper ((srt inks.length).take i) (bW inks paper s)).length<=_:=List.length_filter_le _ _;rw[Zbw] at this;exact aX (by omega)) (hQ _ ⟨_,_,rfl,?_⟩)
   ·refine uN ?_;rw[show([some (Sl.sh (.lst (ns.map .int))),some (.sh (bnP paper inks)),some (.sh (dq w h f)),some (.dp (.dk d)),v2,none,none,none,none,none]:Rho).set 4 (some (.sh (stP s)))=[some (.sh (.lst (ns.map .int))),some (.sh (bnP paper inks)),some (.sh (dq w h f)),some (.dp (.dk d)),some (.sh (stP s)),none,none,none,none,none] from rfl];walk_at "rd"
    rw[rY b s (rM hm)];walk_at "rd"
   ·rw[take_snoc hs];exact bc.snoc s
 ·rintro ρ ⟨d0,v4,rfl,bc⟩;rw[List.length_map,List.take_length] at bc;show To _ _
  unfold j0;generalize bnP paper inks=bp
  rw[to_seq];unfold uw;rw[show vB 3 [some (Sl.sh (.lst (ns.map .int))),some (.sh bp),some (.sh (dq w h f)),some (.dp (.dk d0)),v4,none,none,none,none,none]=some (.dk d0) from rfl];show To (lR 5 wu [some (Sl.sh (.lst (ns.map .int))),some (.sh bp),some (.sh (dq w h f)),some (.sh (.dk d0)),v4,none,none,none,none,none]) _
  walk_at "rd"
  rw[show dq w h f=.lst ((List.range h).map λr=>.lst ((List.range w).map λc=>.str (f c r))) from rfl];walk_at "rd"
  refine cP (λi ρ=>∃ v6,CkI ns bp inks paper d0 w h f i v6 0 ρ) ⟨none,.mk (λ_=>[]) v4 none none none 0 ⟨λc hc=>nomatch hc⟩⟩ ?_ ?_
  ·rintro i x ρ hx ⟨v6,⟨ch,v4,v7,v8,v9,_,c⟩⟩;rw[Zae] at hx;have hi:i<h:=by
    rcases ZbL i h with q|q
    ·exact q
    ·rw[Zat (by rw[List.length_range];exact q)] at hx;cases hx
   rw[ZaI hi] at hx;cases hx;refine jr λQS hQ=>?_;unfold jY;walk_at "rd"
   refine cP (CkI ns bp inks paper d0 w h f i (some (.sh (.lst ((List.range w).map λc=>.str (f c i)))))) (.mk ch v4 v7 v8 v9 0 c) ?_ ?_
   ·rintro j x ρ hx ⟨ch,v4,v7,v8,v9,_,c⟩;rw[Zae] at hx;have hj:j<w:=by
     rcases ZbL j w with q|q
     ·exact q
     ·rw[Zat (by rw[List.length_range];exact q)] at hx;cases hx
    rw[ZaI hj] at hx;cases hx;refine jr λQS hQ=>?_;have kl:(kys (prs f w i j)).length<700:=by
     have:=Dl (prs f w i j);rw[qJ] at this;have:=tV hw (show i<=24 by omega) (show j<=24 by omega)
     omega
    unfold jX;walk_at "rd"
    rw[lB (F:=λc=>stP (ch c))];by_cases hm:f j i∈kys (prs f w i j)
    ·rw[Zal hm,Zak (by simp)]
     have ek:kys (prs f w i (j+1))=kys (prs f w i j):=by rw[Ay,uZ,Zal hm]
     have:=CkI.mk (ns:=ns) (bp:=bp) (inks:=inks) (paper:=paper) (d0:=d0) (w:=w) (h:=h) (f:=f) (i:=i) (v6:=some (.sh (.lst ((List.range w).map λc=>.str (f c i))))) ch v4 (some (.sh (.str (f j i)))) v8 v9 (j+1) (by rw[ek];exact c)
     rw[ek] at this;exact hQ _ this
    ·rw[Zak hm,Zal (by simp)]
     obtain⟨n,en,n0⟩:=pF ns (13+((kys (prs f w i j)).length:Int)) (20+((kys (prs f w i j)).length:Int)) (by omega) (by omega) (by omega)
     unfold jW;walk_at "rd"
     rw[List.length_map,en];walk_at "rd"
     have sne:=hs j i hj hi;rw[bc.2 (f j i),Zak sne];refine⟨_,rfl,?_⟩;walk_at "rd"
     rw[List.length_map];have spos:0<(shw inks paper (srt inks.length) (f j i)).length:=List.length_pos_iff.mpr sne;obtain⟨s,es,hsm⟩:∃ s,atI ((shw inks paper (srt inks.length) (f j i)).map stP) (n%((shw inks paper (srt inks.length) (f j i)).length:Int))=some (stP s)/\s∈shw inks paper (srt inks.length) (f j i):=by
      obtain⟨y,e1,e2⟩:=pP (xs:=shw inks paper (srt inks.length) (f j i)) (i:=n%((shw inks paper (srt inks.length) (f j i)).length:Int)) (Za1 _ (by omega)) (ZaP _ (by omega))
      exact⟨y,by rw[Gb,e1];rfl,ZaE e2⟩
     refine⟨by omega,_,es,?_⟩
     have ek:kys (prs f w i (j+1))=kys (prs f w i j)++[f j i]:=by rw[Ay,uZ,Zak hm]
     have ne:∀ c∈kys (prs f w i j),(if c=f j i then s else ch c)=ch c:=λc hc=>Zak λz:c=f j i=>hm (by rw[<-z];exact hc)
     have:=CkI.mk (ns:=ns) (bp:=bp) (inks:=inks) (paper:=paper) (d0:=d0) (w:=w) (h:=h) (f:=f) (i:=i) (v6:=some (.sh (.lst ((List.range w).map λc=>.str (f c i))))) (λc=>if c=f j i then s else ch c) v4 (some (.sh (.str (f j i)))) (some (.sh (.int n))) (some (.sh (.lst ((shw inks paper (srt inks.length) (f j i)).map stP)))) (j+1) (by
      rw[ek];refine⟨λd hd=>?_⟩;rcases Zad.mp hd with q|q
      ·rw[ne d q];exact c.ok d q
      ·rw[Zai.mp q,Zal rfl];exact hsm)
     rw[ek,<-Dn (F:=λc=>stP (ch c)) (G:=λc=>stP (if c=f j i then s else ch c)) hm λc hc=>by rw[ne c hc]] at this
     simp only[Zb3] at this;refine⟨_,by rw[Df,Zal (by rw[List.length_map];exact aX (by omega))],hQ _ ?_⟩
     exact this
   ·rintro ρ ⟨ch,v4,v7,v8,v9,_,c⟩;rw[List.length_map,List.length_range] at *;refine hQ _ ⟨some (.sh (.lst ((List.range w).map λc=>.str (f c i)))),?_⟩;rw[<-Gu] at c ⊢;exact .mk ch v4 v7 v8 v9 0 c
  ·rintro ρ ⟨v6,⟨ch,v4,v7,v8,v9,_,c⟩⟩;rw[List.length_map,List.length_range] at *;show To _ _
   unfold jZ;walk_at "rd"
   exact hE _ ⟨_,rfl,ch,rfl,c⟩
def ni(w:Nat)(ch:Str->List Nat)(k:Nat)(L:List (Str×(Int×Int))):Nat:=(L.filter λq=>decide (k∈ch q.1)).foldl (λn q=>n ||| 2^Mth.pl w q.2) 0
theorem wU(w:Nat)(ch:Str->List Nat)(k:Nat)(L:List (Str×(Int×Int)))(q:Str×(Int×Int)):ni w ch k (L++[q])=if k∈ch q.1 then ni w ch k L ||| 2^Mth.pl w q.2 else ni w ch k L:=by
 unfold ni;rw[List.filter_append];split
 ·rename_i h;rw[ZbT (by simpa using h),ZbE,List.foldl_append]
  rfl
 ·rename_i h;rw[ZbU (by simpa using h),ZbE,ZaS]
theorem PB(w:Nat)(ch:Str->List Nat)(k i:Nat)(L:List (Str×(Int×Int))):(ni w ch k L).testBit i=true↔∃ q∈L,k∈ch q.1/\Mth.pl w q.2=i:=by
 induction L using snocInd with
 |nil=>unfold ni;simp
 |snoc L q ih=>
  rw[wU];split
  ·rename_i h;rw[Nat.testBit_or,Bool.or_eq_true,ih,Nat.testBit_two_pow,Zbb];constructor
   ·rintro(⟨d,h1,h2⟩|h2)
    ·exact⟨d,Zad.mpr (.inl h1),h2⟩
    ·exact⟨q,by simp,h,h2⟩
   ·rintro⟨d,h1,h2,h3⟩;rcases Zad.mp h1 with h1|h1
    ·exact .inl ⟨d,h1,h2,h3⟩
    ·rw[Zai.mp h1] at h3;exact .inr h3
  ·rename_i h;rw[ih];constructor
   ·rintro⟨d,h1,h2⟩;exact⟨d,Zad.mpr (.inl h1),h2⟩
   ·rintro⟨d,h1,h2,h3⟩;rcases Zad.mp h1 with h1|h1
    ·exact⟨d,h1,h2,h3⟩
    ·rw[Zai.mp h1] at h2;exact absurd h2 h
theorem R5{t p:Nat}(h:t<2^p):t ||| 2^p=t+2^p:=by
 have:=Nat.two_pow_add_eq_or_of_lt h 1;rw[Nat.mul_one] at this;rw[Nat.or_comm,<-this,Nat.add_comm]
theorem R6{w h:Nat}(f:Nat->Nat->Str)(n:Nat)(ch:Str->List Nat):(List.range n).map (λk=>ni w ch k (prs f w h 0))=m9 w h f n ch:=by
 apply Zbj
 intro k;by_cases hk:k<n
 ·have e:(m9 w h f n ch)[k]?=some ((m9 w h f n ch).getD k 0):=by
   rw[Zag,Zaa (by rw[yx];exact hk)];rfl
  rw[e,Zae,ZaI hk];show some (ni w ch k (prs f w h 0))=_
  congr 1
  refine Nat.eq_of_testBit_eq λi=>?_;rw[Bool.eq_iff_iff,PB,R4 hk];constructor
  ·rintro⟨⟨s,a⟩,hq,h1,h2⟩;obtain⟨c,r,hc,hr,rfl,rfl⟩:=ou.mp hq;exact⟨c,r,hc,hr,h1,h2⟩
  ·rintro⟨c,r,hc,hr,h1,h2⟩;exact⟨(f c r,((c:Int),(r:Int))),ou.mpr ⟨c,r,hc,hr,rfl,rfl⟩,h1,h2⟩
 ·rw[Zat (by rw[List.length_map,List.length_range];omega),Zat (by rw[yx];omega)]
theorem Ij{paper:Str}{inks:List Ink}(h8:inks.length<=8){w h:Nat}(h0:1<=h)(hw:w<=24)(hh:h<=24)(f:Nat->Nat->Str)(ch:Str->List Nat){d:List (Key×PV)}(hv:∀ c r,c<w->r<h->bZ d (.inr (f c r))=some (stP (ch (f c r)))) :
  lw [bnP paper inks,dq w h f,.dk d]=some (.ok (jy (m9 w h f inks.length ch))):=by
 refine tR (x:=lu (startR [bnP paper inks,dq w h f,.dk d] 6)) ?_;refine mF λQE hE=>?_;unfold lu;rw[show bnP paper inks=.tup [.str paper,.lst (inks.map lL)] from rfl];walk_at "rd"
 rw[Py h0];walk_at "rd"
 rw[List.length_map,List.length_map,List.length_range];refine⟨by omega,by omega,?_⟩
 generalize PV.tup [.str paper,.lst (inks.map lL)]=bp
 refine cP (λi ρ=>∃ v5 v6 v7 v8,ρ=[some (.sh bp),some (.sh (dq w h f)),some (.sh (.dk d)),some (.sh (.int (w:Int))),some (.ow (jy ((List.range i).map λk=>ni w ch k (prs f w h 0)))),v5,v6,v7,v8]) ⟨none,none,none,none,rfl⟩ ?_ ?_
 ·rintro k x ρ hx ⟨v5,v6,v7,v8,rfl⟩;obtain⟨hk,rfl⟩:=jx hx;refine jr λQS hQ=>?_;rw[Int.zero_add];obtain⟨ow,how⟩:∃ ow,jy ((List.range k).map λk=>ni w ch k (prs f w h 0))=ow:=⟨_,rfl⟩;rw[how];unfold qF;walk_at "rd"
  rw[Pz];walk_at "rd"
  refine⟨by omega,by omega,?_⟩
  refine cP (λi ρ=>∃ v7 v8,ρ=[some (.sh bp),some (.sh (dq w h f)),some (.sh (.dk d)),some (.sh (.int (w:Int))),some (.ow ow),some (.sh (.int (k:Int))),some (.sh (.int ((ni w ch k (prs f w i 0):Nat):Int))),v7,v8]/\ni w ch k (prs f w i 0)<2^(i*w)) ⟨_,_,rfl,by show 0<2^(0*w);rw[Nat.zero_mul];decide⟩ ?_ ?_
  ·rintro i x ρ hx ⟨v7,v8,rfl,tb⟩;obtain⟨hi,rfl⟩:=jx hx;have hi:i<h:=by omega
   refine jr λQS hQ=>?_;rw[Int.zero_add];unfold qC;walk_at "rd"
   refine⟨by omega,by omega,?_⟩
   refine cP (λj ρ=>∃ v8,ρ=[some (.sh bp),some (.sh (dq w h f)),some (.sh (.dk d)),some (.sh (.int (w:Int))),some (.ow ow),some (.sh (.int (k:Int))),some (.sh (.int ((ni w ch k (prs f w i j):Nat):Int))),some (.sh (.int (i:Int))),v8]/\ni w ch k (prs f w i j)<2^(i*w+j)) ⟨_,rfl,tb⟩ ?_ ?_
   ·rintro j x ρ hx ⟨v8,rfl,tb⟩;obtain⟨hj,rfl⟩:=jx hx;have hj:j<w:=by omega
    refine jr λQS hQ=>?_;rw[Int.zero_add];have sm:=tV hw (show i<=24 by omega) (show j<=24 by omega)
    have epl:Mth.pl w ((j:Int),(i:Int))=i*w+j:=rfl;rw[Ay,wU,epl,R5 tb] at hQ;have up:2^(i*w+j)<2^(i*w+(j+1)):=Nat.pow_lt_pow_right (by decide) (by omega)
    have dbl:2^(i*w+(j+1))=2^(i*w+j)+2^(i*w+j):=by rw[<-Nat.add_assoc,Nat.pow_succ];omega
    unfold qz;rw[show dq w h f=.lst ((List.range h).map λr=>.lst ((List.range w).map λc=>.str (f c r))) from rfl] at hQ ⊢;walk_at "rd"
    refine⟨_,gB (by rw[Zae,ZaI hi];rfl),?_⟩
    walk_at "rd"
    refine⟨_,gB (by rw[Zae,ZaI hj];rfl),?_⟩
    walk_at "rd"
    refine⟨_,hv j i hj hi,_,Lw _ _,t7 (λq=>?_) λq=>?_⟩
    ·rw[Zbb] at q;rw[Zal q] at hQ;unfold qy;walk_at "rd"
     have ei:(i:Int)*(w:Int)+(j:Int)=((i*w+j:Nat):Int):=by rw[Int.natCast_add,Int.natCast_mul]
     rw[ei,ZaZ];refine⟨.inl ⟨by omega,by omega⟩,by omega,by omega,by decide,hQ _ ⟨some (.sh (.int (j:Int))),?_,by omega⟩⟩
     rw[show(((ni w ch k (prs f w i j)+2^(i*w+j):Nat)):Int)=(ni w ch k (prs f w i j):Int)+1*2^(i*w+j) by simp]
    ·rw[Zbb] at q;rw[Zak q] at hQ;exact hQ _ ⟨_,rfl,by omega⟩
   ·rintro ρ ⟨v8,rfl,tb⟩;have hL:(oV 0 ((w:Int)).toNat).length=w:=by rw[bQ,ZaZ]
    rw[hL] at tb ⊢;rw[Gu,Nat.succ_mul] at hQ;exact hQ _ ⟨_,_,rfl,tb⟩
  ·rintro ρ ⟨v7,v8,rfl,tb⟩;have hL:(oV 0 ((h:Int)).toNat).length=h:=by rw[bQ,ZaZ]
   rw[hL];show To _ _
   unfold qD;rw[<-how];unfold jy at hQ ⊢;walk_at "rd"
   refine⟨by rw[List.length_map,List.length_map,List.length_range];exact aX (by omega),hQ _ ⟨some (.sh (.int (k:Int))),some (.sh (.int ((ni w ch k (prs f w h 0):Nat):Int))),v7,v8,?_⟩⟩
   rw[List.range_succ,ZaM,ZaM];rfl
 ·rintro ρ ⟨v5,v6,v7,v8,rfl⟩;have hL:(oV 0 ((inks.length:Int)).toNat).length=inks.length:=by rw[bQ,ZaZ]
  rw[hL,R6];show To _ _
  unfold qG;walk_at "rd"
  exact hE _ rfl
theorem Ik(n:Nat)(l:List Nat):eqF (n+1) (jy l) (jy l)=some true:=by
 refine m8 λx hx=>?_;obtain⟨s,_,rfl⟩:=ZaQ.mp hx;exact Ak _ _
theorem Be(l:List Nat)(hl:l.length<=1000):fZ [jy l,jy l]=some (.ok (.bl true)):=by
 refine mG (x:=iW (startR [jy l,jy l] 0)) ?_;refine mF λQE hE=>?_;unfold iW;have e:=Ik 31 l;unfold jy at e ⊢;walk_at "rd"
 refine⟨true,e,?_⟩;walk_at "rd"
 unfold m7;walk_at "rd"
 refine⟨by rw[List.length_map];exact ZaJ (aX hl),?_⟩
 rw[Gn (λ(n:Nat)=>PV.int (n:Int)) (λ(n:Nat)=>PV.int (n:Int)) (λ_=>false) _ (λn _=>?_) λn _ z=>by cases z]
 ·rw[show l.filter (λ_=>false)=[] from List.filter_eq_nil_iff.mpr λ_ _=>by decide]
  walk_at "rd"
  exact⟨true,rfl,hE _ rfl⟩
 ·walk_at "rd"
theorem law_main(ns:List Int)(hn:ns.length<=63):wQ [.lst (ns.map .int)]=some (.ok (.bl true)):=by
 obtain⟨paper,inks,cols,eb,b⟩:=An ns;have h8:=b.n1;have big:∀ {n:Nat},n<=1000->n<=sizeLine:=λh=>ZaJ (aX h);have sl:(srt inks.length).length<=256:=by rw[(gK _).length_eq];exact qI h8
 obtain⟨some_,eso,so0,sol,som,soc⟩:=Px b;obtain⟨w,h,f,epi,w0,w1,h0,h1,hf⟩:=Bc ns some_ so0 sol;have hs0:∀ c r,c<w->r<h->shw inks paper (srt inks.length) (f c r)≠[]:=λc r hc hr=>(som _).mp (hf c r hc hr);obtain⟨ch,ech,cho⟩:=vI ns b w1 h1 f hs0;have hk:∀ c r,c<w->r<h->f c r∈kys (prs f w h 0):=λc r hc hr=>yt.mpr ⟨_,ou.mpr ⟨c,r,hc,hr,rfl,rfl⟩⟩;have v1:∀ c∈kys (prs f w h 0),bZ ((kys (prs f w h 0)).map λc=>((.inr c:Key),stP (ch c))) (.inr c)=some (stP (ch c)):=λc hc=>by rw[lB (F:=λc=>stP (ch c)),Zal hc]
 have es:=yu (paper:=paper) w0 h0 w1 h1 f h8 ch v1;have ed:=Ij (paper:=paper) h8 h0 w1 h1 f ch λc r hc hr=>v1 _ (hk c r hc hr);obtain⟨st,hst⟩:∃ st,m9 w h f inks.length ch=st:=⟨_,rfl⟩;have stl:st.length<=8:=by rw[<-hst,yx];exact h8
 rw[hst] at es ed;have er:=Be st (by lia)
 obtain⟨ks,hks⟩:∃ ks,kys (prs f w h 0)=ks:=⟨_,rfl⟩;rw[hks] at ech es ed;have sit:eqF 32 (.lst (fV (ks.map λc=>((.inr c:Key),stP (ch c))))) (.lst (fV (ks.map λc=>((.inr c:Key),stP (ch c)))))=some true:=by
  rw[Ax (λc=>stP (ch c))];refine m8 λx hx=>?_;obtain⟨c,_,rfl⟩:=ZaQ.mp hx;refine ji λx hx=>?_;simp only[Zay,ZbF,or_false] at hx;rcases hx with rfl|rfl
  ·exact jj _ _
  ·exact Ly _ _
 refine mG (x:=Gj (startR [.lst (ns.map .int)] 9)) ?_;refine mF λQE hE=>?_;unfold Gj;walk_at "rd"
 rw[eb];rw[show bnP paper inks=.tup [.str paper,.lst (inks.map lL)] from rfl];walk_at "rd"
 rw[show PV.tup [.str paper,.lst (inks.map lL)]=bnP paper inks from rfl];rw[List.length_map,Gr h8];walk_at "rd"
 refine⟨by rw[List.length_map];exact big (by lia),?_⟩
 rw[oh stP (λs=>.str (bW inks paper s)) _ λs hs=>by
  walk_at "rd"
  rw[rY b s (rM ((gK _).mem_iff.mp hs))];walk_at "rd"]
 walk_at "rd"
 rw[eso];walk_at "rd"
 rw[epi];walk_at "rd"
 rw[ech];walk_at "rd"
 rw[ed];walk_at "rd"
 obtain⟨dd,hdd⟩:∃ dd,ks.map (λc=>((.inr c:Key),stP (ch c)))=dd:=⟨_,rfl⟩;rw[hdd] at es sit ⊢;rw[show yr (.dk dd)=some (.ok (.dk dd)) from rfl,tv_some];have lines:∀ {Q:List PV->Prop},Q ((List.range h).map λr=>PV.lst ((List.range w).map λc=>.str (f c r)))->Tv (jm (dq w h f)) λl=>l.length<=sizeLine/\Tv (eZ (gN 0) lX (m1 xK (oY 0)) [none] l) Q:=λ{Q} q=>by
  unfold dq;walk_at "rd"
  refine⟨by rw[List.length_map,List.length_range];exact big (by lia),?_⟩
  rw[oh (λr=>PV.lst ((List.range w).map λc=>.str (f c r))) (λr=>PV.lst ((List.range w).map λc=>.str (f c r))) _ λr _=>by walk_at "rd",tv_some]
  exact q
 have ri:∀ {ρ:Rho}{Q:Out->Prop},Q (.nx ρ)->True:=λ_=>trivial;clear ech ed epi eso ri
 have sb:=Ln 27 paper inks;refine lines ?_;rw[show PV.lst ((List.range h).map λr=>PV.lst ((List.range w).map λc=>.str (f c r)))=dq w h f from rfl,es];walk_at "rd"
 rw[er];walk_at "rd"
 refine⟨rfl,?_⟩;unfold Gi;rw[show some (Sl.ow (jy st))=some (Sl.ow (.lst (st.map λ(n:Nat)=>PV.int (n:Int)))) from rfl];walk_at "rd"
 rw[es];walk_at "rd"
 rw[er];walk_at "rd"
 refine⟨by rw[List.length_map];exact aX (by lia),?_⟩
 unfold Gh;walk_at "rd"
 refine⟨true,Lz _ _ _ _,?_⟩;rw[Zak (by decide)]
 rw[show mD (.dk dd)=some (.ok (.lst (fV dd))) from rfl];walk_at "rd"
 refine⟨true,sit,?_⟩;rw[Zak (by decide)]
 unfold Gg;walk_at "rd"
 rw[eb];walk_at "rd"
 exact⟨true,sb,hE _ rfl⟩
def top(i:Nat):Stmt:=PySem.Challenge.pw_lostblock_k19_states_by_choices.main.body.getD i (.Pass ⟨0,0,0,0⟩)
def eD(P:Params)(x:Str)(t:Tok)(v:Value):DictEntry:={ hash:=PyData.keyHash P x,key:=.str x t,val:=v }
def fO(n:Str)(i:Nat)(pm:Value)(c:Nat):Obj:={ cls:=.type "function",data:=.func (fnOf n n (bA (top i)) (bu (top i)) (aM (top i)) .none .none .none pm none (.ref c) .none) }
def cO(n:Str)(t1 t2 t3:Tok)(l k:Int)(a:Nat)(m:Int)(b:Nat)(u v:Value)(c:Nat)(z:Int)(t4:Tok):Obj:={ cls:=.type "code",data:=.fields #[.str n t1,.str n t2,.str "/claim/cut.py" t3,.int l 0,.int k 0,.int 0 0,.int 0 0,.int 3 0,.ref a,.bool true,.int m 0,.ref b,.none,u,v,.ref c,.int z 0,.int l 0,.str "/claim/cut.py" t4] }
def KK:Params->Frag:=λP=>(nat_lit 3,{ cls:=.type "dict",data:=.dict #[eD P "__name__" 165 (.str "law_lostblock_k19_states_by_choices" 253),eD P "__doc__" 166 .none,eD P "__package__" 167 .none,eD P "__loader__" 168 (.builtin "__main__.__loader__#opaque"),eD P "__spec__" 169 .none,eD P "__annotations__" 170 (.ref 6),eD P "__builtins__" 171 (.ref 4),eD P "__file__" 173 (.str "/claim/cut.py" 172),eD P "__cached__" 174 .none,eD P "place_of" 196 (.ref 21),eD P "set_of" 206 (.ref 28),eD P "size_of" 215 (.ref 35),eD P "cells_by_colour" 229 (.ref 42),eD P "sets_by_colour" 235 (.ref 47),eD P "state_of" 246 (.ref 54),eD P "states_by" 252 (.ref 59),eD P "_law_cell_at" 262 (.ref 66),eD P "_law_mixed" 270 (.ref 73),eD P "_law_number" 280 (.ref 80),eD P "_law_word" 288 (.ref 87),eD P "_law_glaze" 294 (.ref 92),eD P "_law_bench" 300 (.ref 97),eD P "_law_shows" 313 (.ref 104),eD P "_law_all" 319 (.ref 109),eD P "_law_order" 326 (.ref 116),eD P "_law_size" 333 (.ref 123),eD P "_law_picture" 350 (.ref 130),eD P "_law_choices" 366 (.ref 137),eD P "_law_due" 381 (.ref 144),eD P "_law_right" 387 (.ref 149),eD P "law" 393 (.ref 154)] 31 })::(nat_lit 20,cO "place_of" 189 190 191 2 2 15 181 16 (.ref 17) (.ref 18) 19 194 195)::(nat_lit 21,fO "place_of" 1 (.str "lostblock.boards" 187) 20)::(nat_lit 27,cO "set_of" 197 198 199 4 2 22 181 23 (.ref 24) (.ref 25) 26 204 205)::(nat_lit 28,fO "set_of" 2 (.str "lostblock.boards" 187) 27)::(nat_lit 34,cO "size_of" 209 210 211 10 1 29 181 30 (.ref 31) (.ref 32) 33 213 214)::(nat_lit 35,fO "size_of" 4 (.str "lostblock.pictures" 207) 34)::(nat_lit 41,cO "cells_by_colour" 218 219 220 13 1 36 181 37 (.ref 38) (.ref 39) 40 227 228)::(nat_lit 42,fO "cells_by_colour" 6 (.str "lostblock.stacks" 216) 41)::(nat_lit 46,cO "sets_by_colour" 230 231 232 19 1 43 181 44 .none .none 45 233 234)::(nat_lit 47,fO "sets_by_colour" 7 (.str "lostblock.stacks" 216) 46)::(nat_lit 53,cO "state_of" 236 237 238 22 3 48 181 49 (.ref 50) (.ref 51) 52 244 245)::(nat_lit 54,fO "state_of" 8 (.str "lostblock.stacks" 216) 53)::(nat_lit 58,cO "states_by" 247 248 249 28 3 55 181 56 .none .none 57 250 251)::(nat_lit 59,fO "states_by" 9 (.str "lostblock.stacks" 216) 58)::(nat_lit 65,cO "_law_cell_at" 255 256 257 32 2 60 181 61 (.ref 62) (.ref 63) 64 260 261)::(nat_lit 66,fO "_law_cell_at" 11 (.str "law_lostblock_k19_states_by_choices" 253) 65)::(nat_lit 72,cO "_law_mixed" 263 264 265 36 2 67 181 68 (.ref 69) (.ref 70) 71 268 269)::(nat_lit 73,fO "_law_mixed" 12 (.str "law_lostblock_k19_states_by_choices" 253) 72)::(nat_lit 79,cO "_law_number" 271 272 273 38 3 74 181 75 (.ref 76) (.ref 77) 78 278 279)::(nat_lit 80,fO "_law_number" 13 (.str "law_lostblock_k19_states_by_choices" 253) 79)::(nat_lit 86,cO "_law_word" 281 282 283 43 2 81 181 82 (.ref 83) (.ref 84) 85 286 287)::(nat_lit 87,fO "_law_word" 14 (.str "law_lostblock_k19_states_by_choices" 253) 86)::(nat_lit 91,cO "_law_glaze" 289 290 291 45 2 88 181 89 .none .none 90 292 293)::(nat_lit 92,fO "_law_glaze" 15 (.str "law_lostblock_k19_states_by_choices" 253) 91)::(nat_lit 96,cO "_law_bench" 295 296 297 54 1 93 181 94 .none .none 95 298 299)::(nat_lit 97,fO "_law_bench" 16 (.str "law_lostblock_k19_states_by_choices" 253) 96)::(nat_lit 103,cO "_law_shows" 301 302 303 67 2 98 181 99 (.ref 100) (.ref 101) 102 311 312)::(nat_lit 104,fO "_law_shows" 17 (.str "law_lostblock_k19_states_by_choices" 253) 103)::(nat_lit 108,cO "_law_all" 314 315 316 76 1 105 181 106 .none .none 107 317 318)::(nat_lit 109,fO "_law_all" 18 (.str "law_lostblock_k19_states_by_choices" 253) 108)::(nat_lit 115,cO "_law_order" 320 321 322 81 1 110 181 111 (.ref 112) (.ref 113) 114 324 325)::(nat_lit 116,fO "_law_order" 19 (.str "law_lostblock_k19_states_by_choices" 253) 115)::(nat_lit 122,cO "_law_size" 327 328 329 83 1 117 181 118 (.ref 119) (.ref 120) 121 331 332)::(nat_lit 123,fO "_law_size" 20 (.str "law_lostblock_k19_states_by_choices" 253) 122)::(nat_lit 129,cO "_law_picture" 334 335 336 87 3 124 181 125 (.ref 126) (.ref 127) 128 348 349)::(nat_lit 130,fO "_law_picture" 21 (.str "law_lostblock_k19_states_by_choices" 253) 129)::(nat_lit 136,cO "_law_choices" 351 352 353 105 3 131 181 132 (.ref 133) (.ref 134) 135 364 365)::(nat_lit 137,fO "_law_choices" 22 (.str "law_lostblock_k19_states_by_choices" 253) 136)::(nat_lit 143,cO "_law_due" 367 368 369 117 3 138 181 139 (.ref 140) (.ref 141) 142 379 380)::(nat_lit 144,fO "_law_due" 23 (.str "law_lostblock_k19_states_by_choices" 253) 143)::(nat_lit 148,cO "_law_right" 382 383 384 128 2 145 181 146 .none .none 147 385 386)::(nat_lit 149,fO "_law_right" 24 (.str "law_lostblock_k19_states_by_choices" 253) 148)::(nat_lit 153,cO "law" 388 389 390 132 1 150 181 151 .none .none 152 391 392)::(nat_lit 154,fO "law" 25 (.str "law_lostblock_k19_states_by_choices" 253) 153)::[]
structure Txt(mg:Str->Option Value):Prop where
 tt:True
 Qt:mg "abs"=none
 R9:mg "bool"=none
 DN:mg "dict"=none
 sr:mg "enumerate"=none
 Qu:mg "int"=none
 lC:mg "isinstance"=none
 gb:mg "len"=none
 yG:mg "list"=none
 gG:mg "range"=none
 Ui:mg "set"=none
 Bk:mg "sorted"=none
 PJ:mg "tuple"=none
section
seal PE PA PS PSs PG PGs PI PPs MJ MT MA MAL MO MS MG MGs MI
variable{P:Program}{w:World}{K:Frag}{mg:Str->Option Value}{base:Heap}
theorem Bf:bN ["size","cell"] ["size","cell"] (aM (top 1)):=⟨rfl,rfl,rfl,by decide +kernel,rfl,by decide +kernel,by decide +kernel⟩
theorem Bg(T:Txt mg)(D:bO K mg "place_of" (top 1) ["size","cell"]):FnAt P w K mg base "place_of" 1 ["size","cell"] (spM K XR0 kZ):=by
 refine D.ok Bf (λvs H Q E h=>dw h λps r e=>match ps,e with|[_,_],_=>rfl) (λf cdv A outer s H vs Q E hr h=>?_)
 refine⟨_,(aN (bT (aP bB (aP sW (dR cB (pv 1) aG (λ_ _=>rfl)) (dR cB (pv 0) aG (λ_ _=>rfl))) (dR cB (pv 1) aG (λ_ _=>rfl))))),du (b:=pD) (k:=2) (n:=0) rfl (λps r e=>match ps,e with|[_,_],e=>⟨rfl,e⟩) h λio H0 F0 hio=>?_⟩
 exact(cJ (aC aF.up cW (aC aF.up Es (aC aF.up iG (ak 1) aJ) (aC aF.up iG (ak 0) aJ)) (aC aF.up iG (ak 1) aJ)))
theorem oA:bN ["size","cells","some","cell"] ["size","cells"] (aM (top 2)):=⟨rfl,rfl,rfl,by decide +kernel,rfl,by decide +kernel,by decide +kernel⟩
theorem Il(T:Txt mg)(D:bO K mg "set_of" (top 2) ["size","cells"])(DP:FnAt P w K mg base "place_of" 1 ["size","cell"] (spM K XR0 kZ)):FnAt P w K mg base "set_of" 2 ["size","cells"] (spM K XR0 qm):=by
 refine D.ok oA (λvs H Q E h=>dw h λps r e=>match ps,e with|[_,_],_=>rfl) (λf cdv A outer s H vs Q E hr h=>?_)
 refine⟨_,(aB (aY (i:=2) oA.nd rfl (Or.inl rfl) aG)
   (aB (fB Za2 rfl (gC (pv 1)) (bM (i:=3) oA.nd rfl (Or.inl rfl))
    (aN (aY (i:=2) oA.nd rfl (Or.inl rfl) (aP PQ (pv 2) (aP Ja aG (aU DP (hr.mono (by decide)) rfl (aj (pv 0) (aj (pv 3) au))))))))
   (aN (bT (pv 2))))),du (b:=uQ) (k:=2) (n:=2) rfl (λps r e=>match ps,e with|[_,_],e=>⟨rfl,e⟩) h λio H0 F0 hio=>?_⟩
 exact(aQ (aZ aJ (aK 2))
   (aQ (fK (iH (ak 1)) (aK 3)
    (aZ (aC aF.up Tr (ak 2) (aC aF.up Qk aJ (bR (ao (ak 0) (ao (ak 3) aO))))) (aK 2)))
   (cJ (ak 2))))
theorem Do:bN ["picture"] ["picture"] (aM (top 4)):=⟨rfl,rfl,rfl,by decide +kernel,rfl,by decide +kernel,by decide +kernel⟩
theorem Dq(T:Txt mg)(D:bO K mg "size_of" (top 4) ["picture"]):FnAt P w K mg base "size_of" 1 ["picture"] (spM K XR0 n6):=by
 refine D.ok Do (λvs H Q E h=>dw h λps r e=>match ps,e with|[_],_=>rfl) (λf cdv A outer s H vs Q E hr h=>?_)
 refine⟨_,(aN (bT (gh (aj (bh cu rfl T.gb (by decide +kernel) (aj (dR cB (pv 0) aG (λ_ _=>rfl)) au)) (aj (bh cu rfl T.gb (by decide +kernel) (aj (pv 0) au)) au))))),du (b:=nZ) (k:=1) (n:=0) rfl (λps r e=>match ps,e with|[_],e=>⟨rfl,e⟩) h λio H0 F0 hio=>?_⟩
 exact(cJ (gj (ao (cF gJ (cU (aC aF.up iG (ak 0) aJ))) (ao (cF gJ (bw 0)) aO))))
theorem b8:bN ["picture","by_colour","row","colours","column","colour"] ["picture"] (aM (top 6)):=⟨rfl,rfl,rfl,by decide +kernel,rfl,by decide +kernel,by decide +kernel⟩
theorem pG(T:Txt mg)(D:bO K mg "cells_by_colour" (top 6) ["picture"]):FnAt P w K mg base "cells_by_colour" 1 ["picture"] (spD K XR0 dZ):=by
 refine D.ok b8 (λvs H Q E h=>Nz h λps r e=>match ps,e with|[_],_=>rfl) (λf cdv A outer s H vs Q E hr h=>?_)
 refine⟨_,(aB (aY (i:=1) b8.nd rfl (Or.inl rfl) ue)
   (aB (fB Za2 rfl (El rfl T.sr (aj (pv 0) au)) (qU (n:=2) rfl (cZ (bM (i:=2) b8.nd rfl (Or.inl rfl)) (cZ (bM (i:=3) b8.nd rfl (Or.inl rfl)) nq)))
    (aN (fB Za2 rfl (El rfl T.sr (aj (pv 3) au)) (qU (n:=2) rfl (cZ (bM (i:=4) b8.nd rfl (Or.inl rfl)) (cZ (bM (i:=5) b8.nd rfl (Or.inl rfl)) nq)))
     (aN (iz (pL Za5 Za3 PySem.F.type_list_append dG (ux (pv 1) (pv 5) (j6 au) ⟨rfl,rfl,rfl,rfl⟩) (aj (gh (aj (pv 4) (aj (pv 2) au))) au)))))))
   (aN (bT (pv 1))))),Ny (b:=dY) (k:=1) (n:=5) rfl (λps r e=>match ps,e with|[_],e=>⟨rfl,e⟩) h λio H0 F0 hio=>?_⟩
 exact(aQ (Fg (i:=1) trivial (Kd xP))
   (aQ (fK (Ey (ao (ak 0) aO)) (rA (dg (aK 2) (dg (aK 3) nC)))
    (fK (Ey (ao (ak 3) aO)) (rA (dg (aK 4) (dg (aK 5) nC)))
     (uH (ak 5) (gj (ao (ak 4) (ao (ak 2) aO))))))
   (J2 1)))
theorem jz:bN ["picture","size"] ["picture"] (aM (top 7)):=⟨rfl,rfl,rfl,by decide +kernel,rfl,by decide +kernel,by decide +kernel⟩
theorem qK(T:Txt mg)(D:bO K mg "sets_by_colour" (top 7) ["picture"])(Iu:FnAt P w K mg base "size_of" 1 ["picture"] (spM K XR0 n6))(qN:FnAt P w K mg base "cells_by_colour" 1 ["picture"] (spD K XR0 dZ))(LQ:FnAt P w K mg base "set_of" 2 ["size","cells"] (spM K XR0 qm)):FnAt P w K mg base "sets_by_colour" 3 ["picture"] (spO K XR0 eU):=by
 refine D.ok jz (λvs H Q E h=>nJ h λps r e=>match ps,e with|[_],_=>rfl) (λf cdv A outer s H vs Q E hr h=>?_)
 refine⟨_,(aB (aY (i:=1) jz.nd rfl (Or.inr rfl) (aU Iu (hr.mono (by decide)) rfl (aj (pv 0) au)))
   (aN (bT (eN (uq hr rfl) rfl T.DN (by decide +kernel) (aj (nu ["colour","cells","size"] [none,none,some 1] rfl (Ka (K3 (aU qN (hr.mono (by decide)) rfl (aj (pv 0) au)))) (λ_ _ _ _ _=>(My (n:=2) rfl (cZ (fP (i:=0) (by decide +kernel) rfl rfl) (cZ (fP (i:=1) (by decide +kernel) rfl rfl) nq)))) (λ_ _ _ _ _=>oN) (λ_ _ _ _ _=>(gh (aj (pvl 0) (aj (aU LQ (hr.mono (by decide)) (glc rfl) (aj (pvf 2) (aj (pvl 1) au))) au))))) au))))),nH (b:=eQ) (k:=1) (n:=1) rfl (λps r e=>match ps,e with|[_],e=>⟨rfl,e⟩) h λio H0 F0 hio=>?_⟩
 exact(aQ (aZ (bR (ao (ak 0) aO)) (aK 1))
   (xF (oX (Nr λ_ _ _=>Ff) (xr (kj (HJ (Nv (ao (ak 0) aO))) (rA (dg (aK 0) (dg (aK 1) nC))) (Q9 (zr (iI 0) (zr (iI 1) Nk))) oW (gj (ao (ak 0) (ao (bR (ao (ak 2) (ao (ak 1) aO))) aO))))))))
theorem jA:bN ["sets","choices","number","state","colour"] ["sets","choices","number"] (aM (top 8)):=⟨rfl,rfl,rfl,by decide +kernel,rfl,by decide +kernel,by decide +kernel⟩
theorem Bh(T:Txt mg)(D:bO K mg "state_of" (top 8) ["sets","choices","number"]):FnAt P w K mg base "state_of" 1 ["sets","choices","number"] (spM K XR0 lq):=by
 refine D.ok jA (λvs H Q E h=>dw h λps r e=>match ps,e with|[_,_,_],_=>rfl) (λf cdv A outer s H vs Q E hr h=>?_)
 refine⟨_,(aB (aY (i:=3) jA.nd rfl (Or.inl rfl) aG)
   (aB (NB 0 (fB Za2 rfl (NK (pv 0)) (bM (i:=4) jA.nd rfl (Or.inl rfl))
    (aN (g8 (cY (JC hr) (pv 2) (p7 hr (pv 1) (pv 4) (λ_ _=>rfl)) (by with_unfolding_all rfl))
     (aN (aY (i:=3) jA.nd rfl (Or.inl rfl) (aP PQ (pv 3) (p7 hr (pv 0) (pv 4) (λ_ _=>rfl)))))
     dO))))
   (aN (bT (pv 3))))),du (b:=lg) (k:=3) (n:=2) rfl (λps r e=>match ps,e with|[_,_,_],e=>⟨rfl,e⟩) h λio H0 F0 hio=>?_⟩
 exact(aQ (aZ aJ (aK 3))
   (aQ (NQ 0 (λ_ _=>NT (J7 0) (aK 4)
    (ig (cM (aC aH.up Tt (bw 2) (cU (sY (dH 1) (ak 4)))))
     (aZ (aC aF.up Tr (ak 3) (sY (dH 0) (ak 4))) (aK 3))
     dW)))
   (cJ (ak 3))))
theorem qL:bN ["bench","picture","choices","sets"] ["bench","picture","choices"] (aM (top 9)):=⟨rfl,rfl,rfl,by decide +kernel,rfl,by decide +kernel,by decide +kernel⟩
theorem yz(T:Txt mg)(D:bO K mg "states_by" (top 9) ["bench","picture","choices"])(rN:FnAt P w K mg base "sets_by_colour" 3 ["picture"] (spO K XR0 eU))(DQ:FnAt P w K mg base "state_of" 1 ["sets","choices","number"] (spM K XR0 lq)):FnAt P w K mg base "states_by" 4 ["bench","picture","choices"] (spO K XR0 gO):=by
 refine D.ok qL (λvs H Q E h=>nJ h λps r e=>match ps,e with|[_,_,_],_=>rfl) (λf cdv A outer s H vs Q E hr h=>?_)
 refine⟨_,(aB (aY (i:=3) qL.nd rfl (Or.inr rfl) (aU rN (hr.mono (by decide)) rfl (aj (pv 1) au)))
   (aN (bT (nu ["number","sets","choices"] [none,some 3,some 2] rfl (dF rfl T.gG (aj (bh cu rfl T.gb (by decide +kernel) (aj (dR cB (pv 0) aG (λ_ _=>rfl)) au)) au)) (λ_ _ _ _ _=>(fP (i:=0) (by decide +kernel) rfl rfl)) (λ_ _ _ _ _=>oN) (λ_ _ _ _ _=>(aU DQ (hr.mono (by decide)) (glc rfl) (aj (pvf 1) (aj (pvf 2) (aj (pvl 0) au))))))))),nH (b:=jt) (k:=3) (n:=1) rfl (λps r e=>match ps,e with|[_,_,_],e=>⟨rfl,e⟩) h λio H0 F0 hio=>?_⟩
 exact(aQ (aZ (cV (jl (ao (ak 1) aO))) (aK 3))
   (xF (kj (gD (ao (cF gJ (cU (aC aF.up iG (ak 0) aJ))) aO)) (aK 0) (iI 0) oW (bR (ao (ak 1) (ao (ak 2) (ao (ak 0) aO)))))))
theorem yC:bN ["_law_script","_law_k"] ["_law_script","_law_k"] (aM (top 11)):=⟨rfl,rfl,rfl,by decide +kernel,rfl,by decide +kernel,by decide +kernel⟩
theorem yD(T:Txt mg)(D:bO K mg "_law_cell_at" (top 11) ["_law_script","_law_k"]):FnAt P w K mg base "_law_cell_at" 1 ["_law_script","_law_k"] (spM K XR0 bD):=by
 refine D.ok yC (λvs H Q E h=>dw h λps r e=>match ps,e with|[_,_],_=>rfl) (λf cdv A outer s H vs Q E hr h=>?_)
 refine⟨_,(aB (g8 (cY Ce (pv 1) (bh cu rfl T.gb (by decide +kernel) (aj (pv 0) au)) (fJ _))
    (aN (bT (dR cB (pv 0) (pv 1) (λ_ _=>rfl))))
    dO)
   (aN (bT aG))),du (b:=jg) (k:=2) (n:=0) rfl (λps r e=>match ps,e with|[_,_],e=>⟨rfl,e⟩) h λio H0 F0 hio=>?_⟩
 exact(aQ (ig (cM (aC aF.up Q7 (ak 1) (cF gJ (bw 0))))
    (cJ (aC aF.up iG (ak 0) (ak 1)))
    dW)
   (cJ aJ))
theorem Ds:bN ["_law_cell","_law_k"] ["_law_cell","_law_k"] (aM (top 12)):=⟨rfl,rfl,rfl,by decide +kernel,rfl,by decide +kernel,by decide +kernel⟩
theorem Dt(T:Txt mg)(D:bO K mg "_law_mixed" (top 12) ["_law_cell","_law_k"]):FnAt P w K mg base "_law_mixed" 1 ["_law_cell","_law_k"] (spM K XR0 cQ):=by
 refine D.ok Ds (λvs H Q E h=>dw h λps r e=>match ps,e with|[_,_],_=>rfl) (λf cdv A outer s H vs Q E hr h=>?_)
 refine⟨_,(aN (bT (aP cH (aP sZ (aP bB (aP bB (aP cH (pv 0) (aP qW aG aG)) (aP sZ (pv 1) (pv 1))) aG) aG) (aP bB (aP qW aG aG) aG)))),du (b:=iM) (k:=2) (n:=0) rfl (λps r e=>match ps,e with|[_,_],e=>⟨rfl,e⟩) h λio H0 F0 hio=>?_⟩
 exact(cJ (aC aF.up eY (aC aF.up xZ (aC aF.up cW (aC aF.up cW (aC aF.up eY (ak 0) (aC aF.up vZ aJ aJ)) (aC aF.up xZ (ak 1) (ak 1))) aJ) aJ) (aC aF.up cW (aC aF.up vZ aJ aJ) aJ)))
theorem rZ:bN ["_law_script","_law_k","_law_at","_law_cell"] ["_law_script","_law_k","_law_at"] (aM (top 13)):=⟨rfl,rfl,rfl,by decide +kernel,rfl,by decide +kernel,by decide +kernel⟩
theorem Bj(T:Txt mg)(D:bO K mg "_law_number" (top 13) ["_law_script","_law_k","_law_at"])(di:FnAt P w K mg base "_law_cell_at" 1 ["_law_script","_law_k"] (spM K XR0 bD))(iY:FnAt P w K mg base "_law_mixed" 1 ["_law_cell","_law_k"] (spM K XR0 cQ)):FnAt P w K mg base "_law_number" 2 ["_law_script","_law_k","_law_at"] (spM K XR0 bF):=by
 refine D.ok rZ (λvs H Q E h=>dw h λps r e=>match ps,e with|[_,_,_],_=>rfl) (λf cdv A outer s H vs Q E hr h=>?_)
 refine⟨_,(aB (aY (i:=3) rZ.nd rfl (Or.inl rfl) (bh yQ rfl T.Qt (by decide +kernel) (aj (aU di (hr.mono (by decide)) rfl (aj (pv 0) (aj (pv 1) au))) au)))
   (aB (g8 (cY Sy (pv 3) (aP qW aG aG) (fJ _))
    (aN (bT (pv 3)))
    dO)
   (aN (bT (aU iY (hr.mono (by decide)) rfl (aj (aU iY (hr.mono (by decide)) rfl (aj (pv 3) (aj (pv 2) au))) (aj (aP bB (pv 2) aG) au))))))),du (b:=dJ) (k:=3) (n:=1) rfl (λps r e=>match ps,e with|[_,_,_],e=>⟨rfl,e⟩) h λio H0 F0 hio=>?_⟩
 exact(aQ (aZ (cF Ql (bR (ao (ak 0) (ao (ak 1) aO)))) (aK 3))
   (aQ (ig (cM (aC aF.up Uu (ak 3) (aC aF.up vZ aJ aJ)))
    (cJ (ak 3))
    dW)
   (cJ (bR (ao (bR (ao (ak 3) (ao (ak 2) aO))) (ao (aC aF.up cW (ak 2) aJ) aO))))))
theorem Im:bN ["_law_place","_law_k"] ["_law_place","_law_k"] (aM (top 14)):=⟨rfl,rfl,rfl,by decide +kernel,rfl,by decide +kernel,by decide +kernel⟩
theorem Io(T:Txt mg)(D:bO K mg "_law_word" (top 14) ["_law_place","_law_k"]):FnAt P w K mg base "_law_word" 1 ["_law_place","_law_k"] (spM K XR0 d8):=by
 refine D.ok Im (λvs H Q E h=>dw h λps r e=>match ps,e with|[_,_],_=>rfl) (λf cdv A outer s H vs Q E hr h=>?_)
 refine⟨_,(aN (bT (aP bB (aP bB (yS Jh qR Ef (Eg (pv 0))) (dR cB qR (aP cH (pv 1) aG) (λ_ _=>rfl))) (yS Jh qR (Eg (pv 0)) Ef)))),du (b:=ju) (k:=2) (n:=0) rfl (λps r e=>match ps,e with|[_,_],e=>⟨rfl,e⟩) h λio H0 F0 hio=>?_⟩
 exact(cJ (aC aF.up cW (aC aF.up cW (JN rm Ew (Ex (ak 0))) (aC aF.up iG rm (aC aF.up eY (ak 1) aJ))) (JN rm (Ex (ak 0)) Ew)))
theorem gA:bN ["_law_number_here","_law_colours","_law_pairs","_law_rest","_law_k","_law_under"] ["_law_number_here","_law_colours"] (aM (top 15)):=⟨rfl,rfl,rfl,by decide +kernel,rfl,by decide +kernel,by decide +kernel⟩
theorem Du(T:Txt mg)(D:bO K mg "_law_glaze" (top 15) ["_law_number_here","_law_colours"]):FnAt P w K mg base "_law_glaze" 1 ["_law_number_here","_law_colours"] (spM K XR0 fW):=by
 refine D.ok gA (λvs H Q E h=>dw h λps r e=>match ps,e with|[_,_],_=>rfl) (λf cdv A outer s H vs Q E hr h=>?_)
 refine⟨_,(aB (aY (i:=2) gA.nd rfl (Or.inl rfl) (j6 au))
   (aB (aY (i:=3) gA.nd rfl (Or.inl rfl) (aP cX (pv 0) aG))
   (aB (fB Za2 rfl (dF rfl T.gG (aj (aP bB aG (aP cH (pv 0) aG)) au)) (bM (i:=4) gA.nd rfl (Or.inl rfl))
    (aB (aY (i:=5) gA.nd rfl (Or.inl rfl) (dR cB (pv 1) (aP cH (pv 3) (bh cu rfl T.gb (by decide +kernel) (aj (pv 1) au))) (λ_ _=>rfl)))
    (aB (g8 (cY (Hh hr) (pv 5) (nu ["_law_pair"] [none] rfl (gC (pv 2)) (λ_ _ _ _ _=>(fP (i:=0) (by decide +kernel) rfl rfl)) (λ_ _ _ _ _=>oN) (λ_ _ _ _ _=>(dR Np (pvl 0) aG (λ_ _=>rfl)))) (by with_unfolding_all rfl))
     (aN (iz (pL Za5 Za3 PySem.F.type_list_append dG (pv 2) (aj (gh (aj (pv 5) (aj (dR cB (pv 1) (aP cH (aP cX (pv 3) aG) (bh cu rfl T.gb (by decide +kernel) (aj (pv 1) au))) (λ_ _=>rfl)) au))) au))))
     dO)
    (aN (aY (i:=3) gA.nd rfl (Or.inl rfl) (aP cX (pv 3) aG))))))
   (aN (bT (eN vg rfl T.PJ (by decide +kernel) (aj (pv 2) au))))))),du (b:=iQ) (k:=2) (n:=4) rfl (λps r e=>match ps,e with|[_,_],e=>⟨rfl,e⟩) h λio H0 F0 hio=>?_⟩
 exact(aQ (j8 (i:=2) trivial (oO aO))
   (aQ (aZ (aC aF.up ir (ak 0) aJ) (aK 3))
   (aQ (fK (gD (ao (aC aF.up cW aJ (aC aF.up eY (ak 0) aJ)) aO)) (aK 4)
    (aQ (aZ (aC aF.up iG (ak 1) (aC aF.up eY (ak 3) (cF gJ (bw 1)))) (aK 5))
    (aQ (ig (cM (aC aH.up Ng (bw 5) (cU (cV (zu (JS (lQ 2)) (aK 0) (iI 0) oW (aC aF.up iG (ak 0) aJ))))))
     (oR (gj (ao (ak 5) (ao (aC aF.up iG (ak 1) (aC aF.up eY (aC aF.up ir (ak 3) aJ) (cF gJ (bw 1)))) aO))))
     dW)
    (aZ (aC aF.up ir (ak 3) aJ) (aK 3)))))
   (cJ (cF Tz (lQ 2))))))
theorem eF:bN ["_law_script","_law_head","_law_place","_law_colours","_law_inks","_law_k","_law_number_here","_law_name"] ["_law_script"] (aM (top 16)):=⟨rfl,rfl,rfl,by decide +kernel,rfl,by decide +kernel,by decide +kernel⟩
theorem Dv(T:Txt mg)(D:bO K mg "_law_bench" (top 16) ["_law_script"])(dM:FnAt P w K mg base "_law_number" 2 ["_law_script","_law_k","_law_at"] (spM K XR0 bF))(su:FnAt P w K mg base "_law_word" 1 ["_law_place","_law_k"] (spM K XR0 d8))(di:FnAt P w K mg base "_law_cell_at" 1 ["_law_script","_law_k"] (spM K XR0 bD))(yH:FnAt P w K mg base "_law_glaze" 1 ["_law_number_here","_law_colours"] (spM K XR0 fW)):FnAt P w K mg base "_law_bench" 3 ["_law_script"] (spM K XR0 eV):=by
 refine D.ok eF (λvs H Q E h=>dw h λps r e=>match ps,e with|[_],_=>rfl) (λf cdv A outer s H vs Q E hr h=>?_)
 refine⟨_,(aB (aY (i:=1) eF.nd rfl (Or.inr rfl) (aP cX (aU dM (hr.mono (by decide)) rfl (aj (pv 0) (aj aG (aj aG au)))) aG))
   (aB (aY (i:=2) eF.nd rfl (Or.inr rfl) (aP cH (pv 1) aG))
   (aB (Ek (i:=3) ["_law_k","_law_place","_law_head"] [none,some 2,some 1] rfl eF.nd rfl rfl (dF rfl T.gG (aj (aP bB aG (aP cH (aP cX (pv 1) aG) aG)) au)) (λ_ _ _ _ _=>(fP (i:=0) (by decide +kernel) rfl rfl)) (λ_ _ _ _ _=>oN) (λ_ _ _ _ _=>(aU su (hr.mono (by decide)) (glc rfl) (aj (pvf 1) (aj (aP JV (aP cX (pvf 2) aG) (aP sW aG (pvl 0))) au)))))
   (aB (aY (i:=4) eF.nd rfl (Or.inl rfl) (j6 au))
   (aB (fB Za2 rfl (dF rfl T.gG (aj (aP bB aG (aP cH (aU di (hr.mono (by decide)) rfl (aj (pv 0) (aj aG au))) aG)) au)) (bM (i:=5) eF.nd rfl (Or.inl rfl))
    (aB (aY (i:=6) eF.nd rfl (Or.inl rfl) (aU dM (hr.mono (by decide)) rfl (aj (pv 0) (aj (aP bB aG (pv 5)) (aj (aP bB aG (pv 5)) au)))))
    (aB (aY (i:=7) eF.nd rfl (Or.inl rfl) (aU su (hr.mono (by decide)) rfl (aj (aP cH (aP bB (pv 2) aG) aG) (aj (aP bB (aP cX (pv 1) aG) (aP sW aG (pv 5))) au))))
    (aN (g8 (cY Ce (aP cH (pv 6) aG) aG (fJ _))
     (aN (iz (pL Za5 Za3 PySem.F.type_list_append dG (pv 4) (aj (gh (aj qR (aj (pv 7) (aj (dR cB (pv 3) (aP cH (aP cX (pv 6) aG) (bh cu rfl T.gb (by decide +kernel) (aj (pv 3) au))) (λ_ _=>rfl)) au)))) au))))
     (aN (iz (pL Za5 Za3 PySem.F.type_list_append dG (pv 4) (aj (gh (aj qR (aj (pv 7) (aj (aU yH (hr.mono (by decide)) rfl (aj (aP cX (pv 6) aG) (aj (pv 3) au))) au)))) au)))))))))
   (aN (bT (gh (aj (gh (aj (dR cB (pv 3) (aP cH (aP cX (pv 1) aG) (bh cu rfl T.gb (by decide +kernel) (aj (pv 3) au))) (λ_ _=>rfl)) (aj (pv 4) au))) (aj (pv 3) au)))))))))),du (b:=iR) (k:=1) (n:=7) rfl (λps r e=>match ps,e with|[_],e=>⟨rfl,e⟩) h λio H0 F0 hio=>?_⟩
 exact(aQ (aZ (aC aF.up ir (bR (ao (ak 0) (ao aJ (ao aJ aO)))) aJ) (aK 1))
   (aQ (aZ (aC aF.up eY (ak 1) aJ) (aK 2))
   (aQ (aZ (cV (kj (gD (ao (aC aF.up cW aJ (aC aF.up eY (aC aF.up ir (ak 1) aJ) aJ)) aO)) (aK 0) (iI 0) oW (bR (ao (ak 1) (ao (aC aF.up cW (aC aF.up ir (ak 2) aJ) (aC aF.up Es aJ (ak 0))) aO))))) (aK 3))
   (aQ (j8 (i:=4) trivial (oO aO))
   (aQ (fK (gD (ao (aC aF.up cW aJ (aC aF.up eY (bR (ao (ak 0) (ao aJ aO))) aJ)) aO)) (aK 5)
    (aQ (aZ (bR (ao (ak 0) (ao (aC aF.up cW aJ (ak 5)) (ao (aC aF.up cW aJ (ak 5)) aO)))) (aK 6))
    (aQ (aZ (bR (ao (aC aF.up eY (aC aF.up cW (ak 2) aJ) aJ) (ao (aC aF.up cW (aC aF.up ir (ak 1) aJ) (aC aF.up Es aJ (ak 5))) aO))) (aK 7))
    (ig (cM (aC aF.up Q7 (aC aF.up eY (ak 6) aJ) aJ))
     (oR (gj (ao rm (ao (ak 7) (ao (aC aF.up iG (ak 3) (aC aF.up eY (aC aF.up ir (ak 6) aJ) (cF gJ (bw 3)))) aO)))))
     (oR (gj (ao rm (ao (ak 7) (ao (bR (ao (aC aF.up ir (ak 6) aJ) (ao (ak 3) aO))) aO)))))))))
   (Jw 4 hio (cJ (gj (ao (gj (ao (aC aF.up iG (ak 3) (aC aF.up eY (aC aF.up ir (ak 1) aJ) (cF gJ (bw 3)))) (ao (ak 4) aO))) (ao (ak 3) aO))))))))))
theorem eG:bN ["_law_bench_here","_law_stack","_law_colour","_law_ink","_law_kind","_law_name","_law_told"] ["_law_bench_here","_law_stack"] (aM (top 17)):=⟨rfl,rfl,rfl,by decide +kernel,rfl,by decide +kernel,by decide +kernel⟩
theorem Dw(T:Txt mg)(D:bO K mg "_law_shows" (top 17) ["_law_bench_here","_law_stack"]):FnAt P w K mg base "_law_shows" 1 ["_law_bench_here","_law_stack"] (spM K XR0 eX):=by
 refine D.ok eG (λvs H Q E h=>dw h λps r e=>match ps,e with|[_,_],_=>rfl) (λf cdv A outer s H vs Q E hr h=>?_)
 refine⟨_,(aB (aY (i:=2) eG.nd rfl (Or.inl rfl) (dR cB (pv 0) aG (λ_ _=>rfl)))
   (aB (fB Za2 rfl (gC (pv 1)) (bM (i:=3) eG.nd rfl (Or.inl rfl))
    (aB (Bq (dR cB (dR cB (pv 0) aG (λ_ _=>rfl)) (pv 3) (λ_ _=>rfl)) (qU (n:=3) rfl (cZ (bM (i:=4) eG.nd rfl (Or.inl rfl)) (cZ (bM (i:=5) eG.nd rfl (Or.inl rfl)) (cZ (bM (i:=6) eG.nd rfl (Or.inl rfl)) nq)))))
    (aN (g8 (cY (lW hr) (pv 4) qR (fJ _))
     (aN (aY (i:=2) eG.nd rfl (Or.inl rfl) (pv 6)))
     (aN (aY (i:=2) eG.nd rfl (Or.inl rfl) (Hm hr (eN (uq hr rfl) rfl T.DN (by decide +kernel) (aj (pv 6) au)) (pv 2) (pv 2) ⟨rfl,rfl,rfl,rfl⟩)))))))
   (aN (bT (pv 2))))),du (b:=iT) (k:=2) (n:=5) rfl (λps r e=>match ps,e with|[_,_],e=>⟨rfl,e⟩) h λio H0 F0 hio=>?_⟩
 exact(aQ (aZ (aC aF.up iG (ak 0) aJ) (aK 2))
   (aQ (fK (iH (ak 1)) (aK 3)
    (aQ (aZ (aC aF.up iG (aC aF.up iG (ak 0) aJ) (ak 3)) (rA (dg (aK 4) (dg (aK 5) (dg (aK 6) nC)))))
    (ig (cM (aC aH.up zq (bw 4) (cU rm)))
     (aZ (ak 6) (aK 2))
     (aZ (J0 (JX (cV (oX (Nt λ_ _ _=>Ff) (ak 6)))) (ak 2) (ak 2)) (aK 2)))))
   (cJ (ak 2))))
theorem Dy:bN ["_law_stack"] ["_law_stack"] (aM (top 19)):=⟨rfl,rfl,rfl,by decide +kernel,rfl,by decide +kernel,by decide +kernel⟩
theorem Dz(T:Txt mg)(D:bO K mg "_law_order" (top 19) ["_law_stack"]):FnAt P w K mg base "_law_order" 1 ["_law_stack"] (spM K XR0 iV):=by
 refine D.ok Dy (λvs H Q E h=>dw h λps r e=>match ps,e with|[_],_=>rfl) (λf cdv A outer s H vs Q E hr h=>?_)
 refine⟨_,(aN (bT (gh (aj (bh cu rfl T.gb (by decide +kernel) (aj (pv 0) au)) (aj (pv 0) au))))),du (b:=iU) (k:=1) (n:=0) rfl (λps r e=>match ps,e with|[_],e=>⟨rfl,e⟩) h λio H0 F0 hio=>?_⟩
 exact(cJ (gj (ao (cF gJ (bw 0)) (ao (ak 0) aO))))
theorem qM:bN ["_law_many","_law_some","_law_ink"] ["_law_many"] (aM (top 18)):=⟨rfl,rfl,rfl,by decide +kernel,rfl,by decide +kernel,by decide +kernel⟩
theorem LC(T:Txt mg)(D:bO K mg "_law_all" (top 18) ["_law_many"])(yI:FnAt P w K mg base "_law_order" 1 ["_law_stack"] (spM K XR0 iV)):FnAt P w K mg base "_law_all" 4 ["_law_many"] (spO K XR0 gn):=by
 refine D.ok qM (λvs H Q E h=>nJ h λps r e=>match ps,e with|[_],_=>rfl) (λf cdv A outer s H vs Q E hr h=>?_)
 refine⟨_,(aB (aY (i:=1) qM.nd rfl (Or.inl rfl) (j6 (aj (gh au) au)))
   (aB (fB Za2 rfl (dF rfl T.gG (aj (pv 0) au)) (bM (i:=2) qM.nd rfl (Or.inr rfl))
    (aN (aY (i:=1) qM.nd rfl (Or.inl rfl) (aP Nb (pv 1) (nu ["_law_stack","_law_ink"] [none,some 2] rfl (gC (pv 1)) (λ_ _ _ _ _=>(fP (i:=0) (by decide +kernel) rfl rfl)) (λ_ _ _ _ _=>oN) (λ_ _ _ _ _=>(aP KN (pvl 0) (gh (aj (pvf 1) au)))))))))
   (aN (bT (K9 yI (hr.mono (by decide)) rfl rfl T.Bk (aj (pv 1) au)))))),nH (b:=lr) (k:=1) (n:=2) rfl (λps r e=>match ps,e with|[_],e=>⟨rfl,e⟩) h λio H0 F0 hio=>?_⟩
 exact(aQ (aZ (cV (oO (ao (gj aO) aO))) (aK 1))
   (aQ (fK (gD (ao (ak 0) aO)) (aK 2)
    (aZ (cV (Tf aV.up Tw (lQ 1) (xr (kj (iH (ak 1)) (aK 0) (iI 0) oW (aC aF.up RG (ak 0) (gj (ao (ak 1) aO))))))) (aK 1)))
   (xF (oX OD (lQ 1)))))
theorem Ip:bN ["_law_cell"] ["_law_cell"] (aM (top 20)):=⟨rfl,rfl,rfl,by decide +kernel,rfl,by decide +kernel,by decide +kernel⟩
theorem Ir(T:Txt mg)(D:bO K mg "_law_size" (top 20) ["_law_cell"]):FnAt P w K mg base "_law_size" 1 ["_law_cell"] (spM K XR0 gP):=by
 refine D.ok Ip (λvs H Q E h=>dw h λps r e=>match ps,e with|[_],_=>rfl) (λf cdv A outer s H vs Q E hr h=>?_)
 refine⟨_,(aB (g8 (cY (lW hr) (aP cH (pv 0) aG) aG (fJ _))
    (aN (bT (gh (aj (aP bB aG (aP cH (aP cX (pv 0) aG) aG)) (aj (aP bB aG (aP cH (aP cX (pv 0) aG) aG)) au)))))
    dO)
   (aN (bT (gh (aj (aP bB aG (aP cH (aP cX (pv 0) aG) aG)) (aj (aP bB aG (aP cH (aP cX (pv 0) aG) aG)) au)))))),du (b:=jw) (k:=1) (n:=0) rfl (λps r e=>match ps,e with|[_],e=>⟨rfl,e⟩) h λio H0 F0 hio=>?_⟩
 exact(aQ (ig (cM (aC aH.up zq (cU (aC aF.up eY (ak 0) aJ)) (cU aJ)))
    (cJ (gj (ao (aC aF.up cW aJ (aC aF.up eY (aC aF.up ir (ak 0) aJ) aJ)) (ao (aC aF.up cW aJ (aC aF.up eY (aC aF.up ir (ak 0) aJ) aJ)) aO))))
    dW)
   (cJ (gj (ao (aC aF.up cW aJ (aC aF.up eY (aC aF.up ir (ak 0) aJ) aJ)) (ao (aC aF.up cW aJ (aC aF.up eY (aC aF.up ir (ak 0) aJ) aJ)) aO)))))
theorem bL:bN ["_law_script","_law_at","_law_some","_law_wide","_law_high","_law_number_here","_law_mixed_here","_law_rows","_law_row","_law_line","_law_column"] ["_law_script","_law_at","_law_some"] (aM (top 21)):=⟨rfl,rfl,rfl,by decide +kernel,rfl,by decide +kernel,by decide +kernel⟩
theorem yE(T:Txt mg)(D:bO K mg "_law_picture" (top 21) ["_law_script","_law_at","_law_some"])(Bl:FnAt P w K mg base "_law_size" 1 ["_law_cell"] (spM K XR0 gP))(di:FnAt P w K mg base "_law_cell_at" 1 ["_law_script","_law_k"] (spM K XR0 bD))(dM:FnAt P w K mg base "_law_number" 2 ["_law_script","_law_k","_law_at"] (spM K XR0 bF))(iY:FnAt P w K mg base "_law_mixed" 1 ["_law_cell","_law_k"] (spM K XR0 cQ)):FnAt P w K mg base "_law_picture" 3 ["_law_script","_law_at","_law_some"] (spO K XR0 d9):=by
 refine D.ok bL (λvs H Q E h=>nJ h λps r e=>match ps,e with|[_,_,_],_=>rfl) (λf cdv A outer s H vs Q E hr h=>?_)
 refine⟨_,(aB (Bq (aU Bl (hr.mono (by decide)) rfl (aj (aP cH (aU di (hr.mono (by decide)) rfl (aj (pv 0) (aj (pv 1) au))) (aP qW aG aG)) au)) (qU (n:=2) rfl (cZ (bM (i:=3) bL.nd rfl (Or.inl rfl)) (cZ (bM (i:=4) bL.nd rfl (Or.inl rfl)) nq))))
   (aB (aY (i:=5) bL.nd rfl (Or.inl rfl) (aU dM (hr.mono (by decide)) rfl (aj (pv 0) (aj (aP bB (pv 1) aG) (aj (pv 1) au)))))
   (aB (aY (i:=6) bL.nd rfl (Or.inl rfl) (eN GJ rfl T.Qu (by decide +kernel) (aj (wZ Ce (bh yQ rfl T.Qt (by decide +kernel) (aj (aU di (hr.mono (by decide)) rfl (aj (pv 0) (aj (aP bB (pv 1) aG) au))) au)) (aP qW aG aG) (fJ _)) au)))
   (aB (aY (i:=7) bL.nd rfl (Or.inl rfl) (j6 au))
   (aB (fB Za2 rfl (dF rfl T.gG (aj (pv 4) au)) (bM (i:=8) bL.nd rfl (Or.inl rfl))
    (aB (aY (i:=9) bL.nd rfl (Or.inl rfl) (j6 au))
    (aB (fB Za2 rfl (dF rfl T.gG (aj (pv 3) au)) (bM (i:=10) bL.nd rfl (Or.inl rfl))
     (aB (g8 (PW.pt (QB (cY (lW hr) (pv 6) aG (fJ _)) (Mp (cY (lW hr) (pv 5) aG (fJ _)))))
      (aB (aY (i:=6) bL.nd rfl (Or.inl rfl) aG)
      (aN (aY (i:=5) bL.nd rfl (Or.inl rfl) (aU iY (hr.mono (by decide)) rfl (aj (pv 8) (aj (pv 10) au))))))
      dO)
     (aB (g8 (cY (lW hr) (pv 6) aG (fJ _))
      (aN (aY (i:=5) bL.nd rfl (Or.inl rfl) (aP bB (aP cH (aP sZ (pv 5) aG) (aP bB (aP qW aG aG) aG)) aG)))
      dO)
     (aB (iz (pL Za5 Za3 PySem.F.type_list_append dG (pv 9) (aj (dR cB (pv 2) (aP cH (aP cX (pv 5) (aP bB aG (aP sZ aG (pv 6)))) (bh cu rfl T.gb (by decide +kernel) (aj (pv 2) au))) (λ_ _=>rfl)) au)))
     (aN (g8 (cY (lW hr) (pv 6) aG (fJ _))
      (aN (aY (i:=5) bL.nd rfl (Or.inl rfl) (aP cX (pv 5) (bh cu rfl T.gb (by decide +kernel) (aj (pv 2) au)))))
      dO))))))
    (aN (iz (pL Za5 Za3 PySem.F.type_list_append dG (pv 7) (aj (pv 9) au)))))))
   (aN (bT (pv 7)))))))),nH (b:=fX) (k:=3) (n:=8) rfl (λps r e=>match ps,e with|[_,_,_],e=>⟨rfl,e⟩) h λio H0 F0 hio=>?_⟩
 exact(aQ (aZ (bR (ao (aC aF.up eY (bR (ao (ak 0) (ao (ak 1) aO))) (aC aF.up vZ aJ aJ)) aO)) (rA (dg (aK 3) (dg (aK 4) nC))))
   (aQ (aZ (bR (ao (ak 0) (ao (aC aF.up cW (ak 1) aJ) (ao (ak 1) aO)))) (aK 5))
   (aQ (aZ (cF Rg (aC aF.up Q7 (cF Ql (bR (ao (ak 0) (ao (aC aF.up cW (ak 1) aJ) aO)))) (aC aF.up vZ aJ aJ))) (aK 6))
   (aQ (j8 (i:=7) trivial (oO aO))
   (aQ (fK (gD (ao (ak 4) aO)) (aK 8)
    (aQ (j8 (i:=9) trivial (oO aO))
    (aQ (fK (gD (ao (ak 3) aO)) (aK 10)
     (aQ (ig (Q3 (cM (aC aH.up zq (bw 6) (cU aJ))) (cM (aC aH.up zq (bw 5) (cU aJ))))
      (aQ (aZ aJ (aK 6))
      (aZ (bR (ao (ak 8) (ao (ak 10) aO))) (aK 5)))
      dW)
     (aQ (ig (cM (aC aH.up zq (bw 6) (cU aJ)))
      (aZ (aC aF.up cW (aC aF.up eY (aC aF.up xZ (ak 5) aJ) (aC aF.up cW (aC aF.up vZ aJ aJ) aJ)) aJ) (aK 5))
      dW)
     (aQ (oR (aC aF.up iG (ak 2) (aC aF.up eY (aC aF.up ir (ak 5) (aC aF.up cW aJ (aC aF.up xZ aJ (ak 6)))) (cF gJ (bw 2)))))
     (ig (cM (aC aH.up zq (bw 6) (cU aJ)))
      (aZ (aC aF.up ir (ak 5) (cF gJ (bw 2))) (aK 5))
      dW)))))
    (Jw 9 hio (oR (ak 9))))))
   (ug 7 hio))))))
theorem cR:bN ["_law_script","_law_bench_here","_law_picture_here","_law_known","_law_stack","_law_choices_here","_law_line","_law_colour","_law_number_here","_law_some"] ["_law_script","_law_bench_here","_law_picture_here"] (aM (top 22)):=⟨rfl,rfl,rfl,by decide +kernel,rfl,by decide +kernel,by decide +kernel⟩
theorem yF(T:Txt mg)(D:bO K mg "_law_choices" (top 22) ["_law_script","_law_bench_here","_law_picture_here"])(pH:FnAt P w K mg base "_law_all" 4 ["_law_many"] (spO K XR0 gn))(lD:FnAt P w K mg base "_law_shows" 1 ["_law_bench_here","_law_stack"] (spM K XR0 eX))(dM:FnAt P w K mg base "_law_number" 2 ["_law_script","_law_k","_law_at"] (spM K XR0 bF)):FnAt P w K mg base "_law_choices" 5 ["_law_script","_law_bench_here","_law_picture_here"] (spO K XR0 eE):=by
 refine D.ok cR (λvs H Q E h=>nJ h λps r e=>match ps,e with|[_,_,_],_=>rfl) (λf cdv A outer s H vs Q E hr h=>?_)
 refine⟨_,(aB (aY (i:=3) cR.nd rfl (Or.inl rfl) ue)
   (aB (fB Za2 rfl (gC (aU pH (hr.mono (by decide)) rfl (aj (bh cu rfl T.gb (by decide +kernel) (aj (dR cB (pv 1) aG (λ_ _=>rfl)) au)) au))) (bM (i:=4) cR.nd rfl (Or.inl rfl))
    (aN (iz (pL Za5 Za3 PySem.F.type_list_append dG (ux (pv 3) (aU lD (hr.mono (by decide)) rfl (aj (pv 1) (aj (pv 4) au))) (j6 au) ⟨rfl,rfl,rfl,rfl⟩) (aj (pv 4) au)))))
   (aB (aY (i:=5) cR.nd rfl (Or.inl rfl) ue)
   (aB (fB Za2 rfl (gC (pv 2)) (bM (i:=6) cR.nd rfl (Or.inl rfl))
    (aN (fB Za2 rfl (gC (pv 6)) (bM (i:=7) cR.nd rfl (Or.inl rfl))
     (aN (g8 (cY (Hl hr) (pv 7) (pv 5) (by with_unfolding_all rfl))
      (aB (aY (i:=8) cR.nd rfl (Or.inl rfl) (aU dM (hr.mono (by decide)) rfl (aj (pv 0) (aj (aP bB aG (bh wy rfl T.gb (by decide +kernel) (aj (pv 5) au))) (aj (aP bB aG (bh wy rfl T.gb (by decide +kernel) (aj (pv 5) au))) au)))))
      (aB (aY (i:=9) cR.nd rfl (Or.inl rfl) (p7 hr (pv 3) (pv 7) (λ_ _=>rfl)))
      (aN (MN (Ei hr) (pv 5) (pv 7) (dR cB (pv 9) (aP cH (pv 8) (bh cu rfl T.gb (by decide +kernel) (aj (pv 9) au))) (λ_ _=>rfl)) rfl))))
      dO)))))
   (aN (bT (pv 5))))))),nH (b:=fY) (k:=3) (n:=7) rfl (λps r e=>match ps,e with|[_,_,_],e=>⟨rfl,e⟩) h λio H0 F0 hio=>?_⟩
 exact(aQ (Fg (i:=3) trivial (Kd xP))
   (aQ (fK (iH (cV (jl (ao (cF gJ (cU (aC aF.up iG (ak 1) aJ))) aO)))) (aK 4)
    (uH (bR (ao (ak 1) (ao (ak 4) aO))) (ak 4)))
   (aQ (NZ 3 (j8 (i:=5) trivial xP))
   (aQ (fK (iH (ak 2)) (aK 6)
    (fK (iH (ak 6)) (aK 7)
     (ig (cM (aC aF.up JZ (ak 7) (dH 5)))
      (aQ (aZ (bR (ao (ak 0) (ao (aC aF.up cW aJ (cF J1 (dH 5))) (ao (aC aF.up cW aJ (cF J1 (dH 5))) aO)))) (aK 8))
      (aQ (aZ (sY (dH 3) (ak 7)) (aK 9))
      (Nq (aC aF.up iG (ak 9) (aC aF.up eY (ak 8) (cF gJ (bw 9)))) (ak 7))))
      dW)))
   (ug 5 hio)))))
theorem gQ:bN ["_law_bench_here","_law_picture_here","_law_choices_here","_law_wide","_law_states","_law_ink","_law_state","_law_row","_law_column"] ["_law_bench_here","_law_picture_here","_law_choices_here"] (aM (top 23)):=⟨rfl,rfl,rfl,by decide +kernel,rfl,by decide +kernel,by decide +kernel⟩
theorem LK(T:Txt mg)(D:bO K mg "_law_due" (top 23) ["_law_bench_here","_law_picture_here","_law_choices_here"]):FnAt P w K mg base "_law_due" 1 ["_law_bench_here","_law_picture_here","_law_choices_here"] (spO K XR0 lw):=by
 refine D.ok gQ (λvs H Q E h=>nJ h λps r e=>match ps,e with|[_,_,_],_=>rfl) (λf cdv A outer s H vs Q E hr h=>?_)
 refine⟨_,(aB (aY (i:=3) gQ.nd rfl (Or.inl rfl) (bh cu rfl T.gb (by decide +kernel) (aj (dR cB (pv 1) aG (λ_ _=>rfl)) au)))
   (aB (aY (i:=4) gQ.nd rfl (Or.inl rfl) (j6 au))
   (aB (fB Za2 rfl (dF rfl T.gG (aj (bh cu rfl T.gb (by decide +kernel) (aj (dR cB (pv 0) aG (λ_ _=>rfl)) au)) au)) (bM (i:=5) gQ.nd rfl (Or.inl rfl))
    (aB (aY (i:=6) gQ.nd rfl (Or.inl rfl) aG)
    (aB (fB Za2 rfl (dF rfl T.gG (aj (bh cu rfl T.gb (by decide +kernel) (aj (pv 1) au)) au)) (bM (i:=7) gQ.nd rfl (Or.inl rfl))
     (aN (fB Za2 rfl (dF rfl T.gG (aj (pv 3) au)) (bM (i:=8) gQ.nd rfl (Or.inl rfl))
      (aN (g8 (cY (JC hr) (pv 5) (p7 hr (pv 2) (dR cB (dR cB (pv 1) (pv 7) (λ_ _=>rfl)) (pv 8) (λ_ _=>rfl)) (λ_ _=>rfl)) (by with_unfolding_all rfl))
       (aN (aY (i:=6) gQ.nd rfl (Or.inl rfl) (aP bB (pv 6) (aP Ja aG (aP bB (aP sW (pv 7) (pv 3)) (pv 8))))))
       dO)))))
    (aN (iz (pL Za5 Za3 PySem.F.type_list_append dG (pv 4) (aj (pv 6) au)))))))
   (aN (bT (pv 4)))))),nH (b:=lu) (k:=3) (n:=6) rfl (λps r e=>match ps,e with|[_,_,_],e=>⟨rfl,e⟩) h λio H0 F0 hio=>?_⟩
 exact(aQ (aZ (cF gJ (cU (aC aF.up iG (ak 1) aJ))) (aK 3))
   (aQ (j8 (i:=4) trivial (oO aO))
   (aQ (fK (gD (ao (cF gJ (cU (aC aF.up iG (ak 0) aJ))) aO)) (aK 5)
    (aQ (aZ aJ (aK 6))
    (aQ (fK (gD (ao (cF gJ (bw 1)) aO)) (aK 7)
     (fK (gD (ao (ak 3) aO)) (aK 8)
      (ig (cM (aC aH.up Tt (bw 5) (cU (sY (dH 2) (aC aF.up iG (aC aF.up iG (ak 1) (ak 7)) (ak 8))))))
       (aZ (aC aF.up cW (ak 6) (aC aF.up Qk aJ (aC aF.up cW (aC aF.up Es (ak 7) (ak 3)) (ak 8)))) (aK 6))
       dW)))
    (oR (ak 6)))))
   (ug 4 hio))))
theorem DG:bN ["_law_found","_law_due_here"] ["_law_found","_law_due_here"] (aM (top 24)):=⟨rfl,rfl,rfl,by decide +kernel,rfl,by decide +kernel,by decide +kernel⟩
theorem DK(T:Txt mg)(D:bO K mg "_law_right" (top 24) ["_law_found","_law_due_here"]):FnAt P w K mg base "_law_right" 1 ["_law_found","_law_due_here"] (spM K XR0 fZ):=by
 refine D.ok DG (λvs H Q E h=>dw h λps r e=>match ps,e with|[_,_],_=>rfl) (λf cdv A outer s H vs Q E hr h=>?_)
 refine⟨_,(aB (g8 (PW.pt (Iw (wX (tW (bh zA rfl T.lC (by decide +kernel) (aj (pv 0) (aj (Ji rfl T.yG (n:="list") (by decide +kernel)) au))))) (Bp (cY (Cd hr) (pv 0) (pv 1) (fJ _)))))
    (aN (bT Eb))
    dO)
   (aN (bT (wZ (lW hr) (nu ["_law_one"] [none] rfl (gC (pv 0)) (λ_ _ _ _ _=>(fP (i:=0) (by decide +kernel) rfl rfl)) (λ_ _ _ _ _=>(QR (PW.pt (Iw (wX (tW (bh wj (glc rfl) T.lC (by decide +kernel) (aj (pvl 0) (aj (Ji (glc rfl) T.Qu (n:="int") (by decide +kernel)) au))))) (Bp (tW (bh wj (glc rfl) T.lC (by decide +kernel) (aj (pvl 0) (aj (Ji (glc rfl) T.R9 (n:="bool") (by decide +kernel)) au))))))))) (λ_ _ _ _ _=>(pvl 0))) (j6 au) (fJ _))))),du (b:=iW) (k:=2) (n:=0) rfl (λps r e=>match ps,e with|[_,_],e=>⟨rfl,e⟩) h λio H0 F0 hio=>?_⟩
 exact(aQ (ig (Ju (xu (uf (Cj aH.up Rf (bw 0) Jt))) (cM (aC aH.up Q8 (bw 0) (bw 1))))
    (cJ Eo)
    dW)
   (cJ (aC aH.up zq (cU (cV (kj (iH (ak 0)) (aK 0) (iI 0) (Ju (xu (uf (Cj aH.up Rf (bw 0) Jt))) (uf (Cj aH.up Rf (bw 0) Jt))) (ak 0)))) (cU (cV (oO aO))))))
theorem jC:bN ["_law_script","_law_bench_here","_law_colours","_law_some","_law_picture_here","_law_choices_here","_law_due_here","_law_handed","_law_lines","_law_found"] ["_law_script"] (aM (top 25)):=⟨rfl,rfl,rfl,by decide +kernel,rfl,by decide +kernel,by decide +kernel⟩
theorem R7(T:Txt mg){f:Addr}{fd:FuncData}(F:Fun K "law" "law" (top 25) f fd)(qO:FnAt P w K mg base "_law_bench" 3 ["_law_script"] (spM K XR0 eV))(pH:FnAt P w K mg base "_law_all" 4 ["_law_many"] (spO K XR0 gn))(lD:FnAt P w K mg base "_law_shows" 1 ["_law_bench_here","_law_stack"] (spM K XR0 eX))(u6:FnAt P w K mg base "_law_picture" 3 ["_law_script","_law_at","_law_some"] (spO K XR0 d9))(u9:FnAt P w K mg base "_law_choices" 5 ["_law_script","_law_bench_here","_law_picture_here"] (spO K XR0 eE))(DR:FnAt P w K mg base "_law_due" 1 ["_law_bench_here","_law_picture_here","_law_choices_here"] (spO K XR0 lw))(sE:FnAt P w K mg base "states_by" 4 ["bench","picture","choices"] (spO K XR0 gO))(qP:FnAt P w K mg base "_law_right" 1 ["_law_found","_law_due_here"] (spM K XR0 fZ)):vf P w K mg base CX0 6 f fd ["_law_script"] (spM K XR0 wQ):=by
 refine F.ok jC (λvs H Q E h=>dw h λps r e=>match ps,e with|[_],_=>rfl) (λcdv A outer s H vs Q E hr h=>?_)
 refine⟨_,(aB (Bq (aU qO (hr.mono (by decide)) rfl (aj (pv 0) au)) (qU (n:=2) rfl (cZ (bM (i:=1) jC.nd rfl (Or.inr rfl)) (cZ (bM (i:=2) jC.nd rfl (Or.inl rfl)) nq))))
   (aB (aY (i:=3) jC.nd rfl (Or.inl rfl) (bh (vG rfl) rfl T.Bk (by decide +kernel) (aj (eN (HD rfl) rfl T.Ui (by decide +kernel) (aj (nu ["_law_stack","_law_bench_here"] [none,some 1] rfl (gC (aU pH (hr.mono (by decide)) rfl (aj (bh cu rfl T.gb (by decide +kernel) (aj (dR cB (pv 1) aG (λ_ _=>rfl)) au)) au))) (λ_ _ _ _ _=>(fP (i:=0) (by decide +kernel) rfl rfl)) (λ_ _ _ _ _=>oN) (λ_ _ _ _ _=>(aU lD (hr.mono (by decide)) (glc rfl) (aj (pvf 1) (aj (pvl 0) au))))) au)) au)))
   (aB (aY (i:=4) jC.nd rfl (Or.inl rfl) (aU u6 (hr.mono (by decide)) rfl (aj (pv 0) (aj aG (aj (pv 3) au)))))
   (aB (aY (i:=5) jC.nd rfl (Or.inl rfl) (aU u9 (hr.mono (by decide)) rfl (aj (pv 0) (aj (pv 1) (aj (pv 4) au)))))
   (aB (aY (i:=6) jC.nd rfl (Or.inl rfl) (aU DR (hr.mono (by decide)) rfl (aj (pv 1) (aj (pv 4) (aj (pv 5) au)))))
   (aB (aY (i:=7) jC.nd rfl (Or.inl rfl) (eN Dc rfl T.DN (by decide +kernel) (aj (pv 5) au)))
   (aB (Ek (i:=8) ["_law_line"] [none] rfl jC.nd rfl rfl (gC (pv 4)) (λ_ _ _ _ _=>(fP (i:=0) (by decide +kernel) rfl rfl)) (λ_ _ _ _ _=>oN) (λ_ _ _ _ _=>(eN vm (glc rfl) T.yG (by decide +kernel) (aj (pvl 0) au))))
   (aB (aY (i:=9) jC.nd rfl (Or.inl rfl) (aU sE (hr.mono (by decide)) rfl (aj (pv 1) (aj (pv 8) (aj (pv 7) au)))))
   (aB (g8 (wX (tW (aU qP (hr.mono (by decide)) rfl (aj (pv 9) (aj (pv 6) au)))))
    (aN (bT Eb))
    dO)
   (aB (iz (pL Za5 Za3 PySem.F.type_list_append dG (pv 9) (aj aG au)))
   (aB (g8 (wX (tW (aU qP (hr.mono (by decide)) rfl (aj (aU sE (hr.mono (by decide)) rfl (aj (pv 1) (aj (pv 8) (aj (pv 7) au)))) (aj (pv 6) au)))))
    (aN (bT Eb))
    dO)
   (aB (g8 (PW.pt (Iw (cY (Cd hr) (pv 8) (pv 4) (fJ _)) (Bp (cY (Cd hr) (eN (uM rfl) rfl T.yG (by decide +kernel) (aj (wN (pv 7)) au)) (eN (uM rfl) rfl T.yG (by decide +kernel) (aj (wN (pv 5)) au)) (fJ _)))))
    (aN (bT Eb))
    dO)
   (aN (bT (wZ (lW hr) (pv 1) (dR cB (aU qO (hr.mono (by decide)) rfl (aj (pv 0) au)) aG (λ_ _=>rfl)) (fJ _)))))))))))))))),du (b:=Gj) (k:=1) (n:=9) rfl (λps r e=>match ps,e with|[_],e=>⟨rfl,e⟩) h λio H0 F0 hio=>?_⟩
 exact(aQ (aZ (bR (ao (ak 0) aO)) (rA (dg (aK 1) (dg (aK 2) nC))))
   (aQ (aZ (cV (HF (xr (kj (iH (cV (jl (ao (cF gJ (cU (aC aF.up iG (ak 1) aJ))) aO)))) (aK 0) (iI 0) oW (bR (ao (ak 1) (ao (ak 0) aO))))))) (aK 3))
   (aQ (aZ (cV (jl (ao (ak 0) (ao aJ (ao (ak 3) aO))))) (aK 4))
   (aQ (aZ (cV (jl (ao (ak 0) (ao (ak 1) (ao (ak 4) aO))))) (aK 5))
   (aQ (aZ (cV (jl (ao (ak 1) (ao (ak 4) (ao (ak 5) aO))))) (aK 6))
   (aQ (aZ (cV (oX OJ (dH 5))) (aK 7))
   (aQ (aZ (cV (kj (iH (ak 4)) (aK 0) (iI 0) oW (cV (oX Rh (lQ 0))))) (aK 8))
   (aQ (j8 (i:=9) trivial (jl (ao (ak 1) (ao (ak 8) (ao (ak 7) aO)))))
   (aQ (ig (xu (uf (Jv (zf (bw 9) (zf (bw 6) M6)))))
    (cJ Eo)
    dW)
   (aQ (oR aJ)
   (aQ (ig (xu (uf (bR (ao (cV (jl (ao (ak 1) (ao (ak 8) (ao (ak 7) aO))))) (ao (ak 6) aO)))))
    (cJ Eo)
    dW)
   (aQ (ig (Ju (cM (aC aH.up Q8 (bw 8) (bw 4))) (cM (aC aH.up Q8 (cU (cV (wO (dH 7)))) (cU (cV (wO (dH 5)))))))
    (cJ Eo)
    dW)
   (cJ (aC aH.up zq (bw 1) (cU (aC aF.up iG (bR (ao (ak 0) aO)) aJ))))))))))))))))
end
theorem R8{l:PySem.W.OpenLaw}{w:World}{K:Frag}{h:Heap}{mg:Str->Option Value}{fa f0 f1 f2 f3 f4 f5 f6 f7 f8 f9 f10 f11 f12 f13 f14 f15 f16 f17 f18 f19 f20 f21:Addr}(X:K.In h)(G:h.Ns mainGlobals mg)(hfa:mg "law"=some (.ref fa))
  {od0 an0 od1 an1 od2 an2 od3 an3 od4 an4 od5 an5 od6 an6 od7 an7 od8 an8 od9 an9 od10 an10 od11 an11 od12 an12 od13 an13 od14 an14 od15 an15 od16 an16 od17 an17 od18 an18 od19 an19 od20 an20 od21 an21:Option Addr}{sl0 sl1 sl2 sl3 sl4 sl5 sl6 sl7 sl8 sl9 sl10 sl11 sl12 sl13 sl14 sl15 sl16 sl17 sl18 sl19 sl20 sl21:Array (Option Value)}{oc0 kV0 dc0 pm0 cd0 ct0 oc1 kV1 dc1 pm1 cd1 ct1 oc2 kV2 dc2 pm2 cd2 ct2 oc3 kV3 dc3 pm3 cd3 ct3 oc4 kV4 dc4 pm4 cd4 ct4 oc5 kV5 dc5 pm5 cd5 ct5 oc6 kV6 dc6 pm6 cd6 ct6 oc7 kV7 dc7 pm7 cd7 ct7 oc8 kV8 dc8 pm8 cd8 ct8 oc9 kV9 dc9 pm9 cd9 ct9 oc10 kV10 dc10 pm10 cd10 ct10 oc11 kV11 dc11 pm11 cd11 ct11 oc12 kV12 dc12 pm12 cd12 ct12 oc13 kV13 dc13 pm13 cd13 ct13 oc14 kV14 dc14 pm14 cd14 ct14 oc15 kV15 dc15 pm15 cd15 ct15 oc16 kV16 dc16 pm16 cd16 ct16 oc17 kV17 dc17 pm17 cd17 ct17 oc18 kV18 dc18 pm18 cd18 ct18 oc19 kV19 dc19 pm19 cd19 ct19 oc20 kV20 dc20 pm20 cd20 ct20 oc21 kV21 dc21 pm21 cd21 ct21:Value}
  (a0:nsIn K mainGlobals "place_of"=some (some (.ref f0)))(l0:K.lookup f0=some ⟨oc0,od0,.func (fnOf "place_of" "place_of" (bA (top 1)) (bu (top 1)) (aM (top 1)) .none kV0 dc0 pm0 an0 cd0 ct0),sl0⟩)(c0:codeIn K cd0 "place_of"=true)(k0:keepIn K (.ref f0)=true)
  (a1:nsIn K mainGlobals "set_of"=some (some (.ref f1)))(l1:K.lookup f1=some ⟨oc1,od1,.func (fnOf "set_of" "set_of" (bA (top 2)) (bu (top 2)) (aM (top 2)) .none kV1 dc1 pm1 an1 cd1 ct1),sl1⟩)(c1:codeIn K cd1 "set_of"=true)(k1:keepIn K (.ref f1)=true)
  (a2:nsIn K mainGlobals "size_of"=some (some (.ref f2)))(l2:K.lookup f2=some ⟨oc2,od2,.func (fnOf "size_of" "size_of" (bA (top 4)) (bu (top 4)) (aM (top 4)) .none kV2 dc2 pm2 an2 cd2 ct2),sl2⟩)(c2:codeIn K cd2 "size_of"=true)(k2:keepIn K (.ref f2)=true)
  (a3:nsIn K mainGlobals "cells_by_colour"=some (some (.ref f3)))(l3:K.lookup f3=some ⟨oc3,od3,.func (fnOf "cells_by_colour" "cells_by_colour" (bA (top 6)) (bu (top 6)) (aM (top 6)) .none kV3 dc3 pm3 an3 cd3 ct3),sl3⟩)(c3:codeIn K cd3 "cells_by_colour"=true)(k3:keepIn K (.ref f3)=true)
  (a4:nsIn K mainGlobals "sets_by_colour"=some (some (.ref f4)))(l4:K.lookup f4=some ⟨oc4,od4,.func (fnOf "sets_by_colour" "sets_by_colour" (bA (top 7)) (bu (top 7)) (aM (top 7)) .none kV4 dc4 pm4 an4 cd4 ct4),sl4⟩)(c4:codeIn K cd4 "sets_by_colour"=true)(k4:keepIn K (.ref f4)=true)
  (a5:nsIn K mainGlobals "state_of"=some (some (.ref f5)))(l5:K.lookup f5=some ⟨oc5,od5,.func (fnOf "state_of" "state_of" (bA (top 8)) (bu (top 8)) (aM (top 8)) .none kV5 dc5 pm5 an5 cd5 ct5),sl5⟩)(c5:codeIn K cd5 "state_of"=true)(k5:keepIn K (.ref f5)=true)
  (a6:nsIn K mainGlobals "states_by"=some (some (.ref f6)))(l6:K.lookup f6=some ⟨oc6,od6,.func (fnOf "states_by" "states_by" (bA (top 9)) (bu (top 9)) (aM (top 9)) .none kV6 dc6 pm6 an6 cd6 ct6),sl6⟩)(c6:codeIn K cd6 "states_by"=true)(k6:keepIn K (.ref f6)=true)
  (a7:nsIn K mainGlobals "_law_cell_at"=some (some (.ref f7)))(l7:K.lookup f7=some ⟨oc7,od7,.func (fnOf "_law_cell_at" "_law_cell_at" (bA (top 11)) (bu (top 11)) (aM (top 11)) .none kV7 dc7 pm7 an7 cd7 ct7),sl7⟩)(c7:codeIn K cd7 "_law_cell_at"=true)(k7:keepIn K (.ref f7)=true)
  (a8:nsIn K mainGlobals "_law_mixed"=some (some (.ref f8)))(l8:K.lookup f8=some ⟨oc8,od8,.func (fnOf "_law_mixed" "_law_mixed" (bA (top 12)) (bu (top 12)) (aM (top 12)) .none kV8 dc8 pm8 an8 cd8 ct8),sl8⟩)(c8:codeIn K cd8 "_law_mixed"=true)(k8:keepIn K (.ref f8)=true)
  (a9:nsIn K mainGlobals "_law_number"=some (some (.ref f9)))(l9:K.lookup f9=some ⟨oc9,od9,.func (fnOf "_law_number" "_law_number" (bA (top 13)) (bu (top 13)) (aM (top 13)) .none kV9 dc9 pm9 an9 cd9 ct9),sl9⟩)(c9:codeIn K cd9 "_law_number"=true)(k9:keepIn K (.ref f9)=true)
  (a10:nsIn K mainGlobals "_law_word"=some (some (.ref f10)))(l10:K.lookup f10=some ⟨oc10,od10,.func (fnOf "_law_word" "_law_word" (bA (top 14)) (bu (top 14)) (aM (top 14)) .none kV10 dc10 pm10 an10 cd10 ct10),sl10⟩)(c10:codeIn K cd10 "_law_word"=true)(k10:keepIn K (.ref f10)=true)
  (a11:nsIn K mainGlobals "_law_glaze"=some (some (.ref f11)))(l11:K.lookup f11=some ⟨oc11,od11,.func (fnOf "_law_glaze" "_law_glaze" (bA (top 15)) (bu (top 15)) (aM (top 15)) .none kV11 dc11 pm11 an11 cd11 ct11),sl11⟩)(c11:codeIn K cd11 "_law_glaze"=true)(k11:keepIn K (.ref f11)=true)
  (a12:nsIn K mainGlobals "_law_bench"=some (some (.ref f12)))(l12:K.lookup f12=some ⟨oc12,od12,.func (fnOf "_law_bench" "_law_bench" (bA (top 16)) (bu (top 16)) (aM (top 16)) .none kV12 dc12 pm12 an12 cd12 ct12),sl12⟩)(c12:codeIn K cd12 "_law_bench"=true)(k12:keepIn K (.ref f12)=true)
  (a13:nsIn K mainGlobals "_law_shows"=some (some (.ref f13)))(l13:K.lookup f13=some ⟨oc13,od13,.func (fnOf "_law_shows" "_law_shows" (bA (top 17)) (bu (top 17)) (aM (top 17)) .none kV13 dc13 pm13 an13 cd13 ct13),sl13⟩)(c13:codeIn K cd13 "_law_shows"=true)(k13:keepIn K (.ref f13)=true)
  (a14:nsIn K mainGlobals "_law_order"=some (some (.ref f14)))(l14:K.lookup f14=some ⟨oc14,od14,.func (fnOf "_law_order" "_law_order" (bA (top 19)) (bu (top 19)) (aM (top 19)) .none kV14 dc14 pm14 an14 cd14 ct14),sl14⟩)(c14:codeIn K cd14 "_law_order"=true)(k14:keepIn K (.ref f14)=true)
  (a15:nsIn K mainGlobals "_law_all"=some (some (.ref f15)))(l15:K.lookup f15=some ⟨oc15,od15,.func (fnOf "_law_all" "_law_all" (bA (top 18)) (bu (top 18)) (aM (top 18)) .none kV15 dc15 pm15 an15 cd15 ct15),sl15⟩)(c15:codeIn K cd15 "_law_all"=true)(k15:keepIn K (.ref f15)=true)
  (a16:nsIn K mainGlobals "_law_size"=some (some (.ref f16)))(l16:K.lookup f16=some ⟨oc16,od16,.func (fnOf "_law_size" "_law_size" (bA (top 20)) (bu (top 20)) (aM (top 20)) .none kV16 dc16 pm16 an16 cd16 ct16),sl16⟩)(c16:codeIn K cd16 "_law_size"=true)(k16:keepIn K (.ref f16)=true)
  (a17:nsIn K mainGlobals "_law_picture"=some (some (.ref f17)))(l17:K.lookup f17=some ⟨oc17,od17,.func (fnOf "_law_picture" "_law_picture" (bA (top 21)) (bu (top 21)) (aM (top 21)) .none kV17 dc17 pm17 an17 cd17 ct17),sl17⟩)(c17:codeIn K cd17 "_law_picture"=true)(k17:keepIn K (.ref f17)=true)
  (a18:nsIn K mainGlobals "_law_choices"=some (some (.ref f18)))(l18:K.lookup f18=some ⟨oc18,od18,.func (fnOf "_law_choices" "_law_choices" (bA (top 22)) (bu (top 22)) (aM (top 22)) .none kV18 dc18 pm18 an18 cd18 ct18),sl18⟩)(c18:codeIn K cd18 "_law_choices"=true)(k18:keepIn K (.ref f18)=true)
  (a19:nsIn K mainGlobals "_law_due"=some (some (.ref f19)))(l19:K.lookup f19=some ⟨oc19,od19,.func (fnOf "_law_due" "_law_due" (bA (top 23)) (bu (top 23)) (aM (top 23)) .none kV19 dc19 pm19 an19 cd19 ct19),sl19⟩)(c19:codeIn K cd19 "_law_due"=true)(k19:keepIn K (.ref f19)=true)
  (a20:nsIn K mainGlobals "_law_right"=some (some (.ref f20)))(l20:K.lookup f20=some ⟨oc20,od20,.func (fnOf "_law_right" "_law_right" (bA (top 24)) (bu (top 24)) (aM (top 24)) .none kV20 dc20 pm20 an20 cd20 ct20),sl20⟩)(c20:codeIn K cd20 "_law_right"=true)(k20:keepIn K (.ref f20)=true)
  (a21:nsIn K mainGlobals "law"=some (some (.ref f21)))(l21:K.lookup f21=some ⟨oc21,od21,.func (fnOf "law" "law" (bA (top 25)) (bu (top 25)) (aM (top 25)) .none kV21 dc21 pm21 an21 cd21 ct21),sl21⟩)(c21:codeIn K cd21 "law"=true)(k21:keepIn K (.ref f21)=true)
  (LR:nsIn K mainGlobals "abs"=some none)(DW:nsIn K mainGlobals "bool"=some none)(DX:nsIn K mainGlobals "dict"=some none)(nj:nsIn K mainGlobals "enumerate"=some none)(Ma:nsIn K mainGlobals "int"=some none)(lE:nsIn K mainGlobals "isinstance"=some none)(Mf:nsIn K mainGlobals "len"=some none)(DY:nsIn K mainGlobals "list"=some none)(yJ:nsIn K mainGlobals "range"=some none)(Mi:nsIn K mainGlobals "set"=some none)(vd:nsIn K mainGlobals "sorted"=some none)(yK:nsIn K mainGlobals "tuple"=some none) :
  ∃ fd:FuncData,(∀ (s:Shared) (v:Value),BindsTo s fd ⟨[v],[]⟩ [("_law_script",v)])/\∀ base:Heap,K.In base->base.Ns mainGlobals mg->vf l.prog w K mg base CX0 6 fa fd ["_law_script"] (spM K XR0 wQ):=by
 have e:=hfa.symm.trans (ZaT X G a21);cases e;have T:Txt mg:=⟨trivial,Za6 X G LR,Za6 X G DW,Za6 X G DX,Za6 X G nj,Za6 X G Ma,Za6 X G lE,Za6 X G Mf,Za6 X G DY,Za6 X G yJ,Za6 X G Mi,Za6 X G vd,Za6 X G yK⟩;have F0:=cI (st:=top 1) l0 c0 k0;have D0:bO K mg "place_of" (top 1) ["size","cell"]:=⟨⟨_,_,ZaT X G a0,F0,F0.binds λ_ _ _ _ _ _ us hl=>by obtain⟨_,_,rfl⟩:=yg hl;rfl⟩⟩
 have F1:=cI (st:=top 2) l1 c1 k1;have D1:bO K mg "set_of" (top 2) ["size","cells"]:=⟨⟨_,_,ZaT X G a1,F1,F1.binds λ_ _ _ _ _ _ us hl=>by obtain⟨_,_,rfl⟩:=yg hl;rfl⟩⟩
 have F2:=cI (st:=top 4) l2 c2 k2;have D2:bO K mg "size_of" (top 4) ["picture"]:=⟨⟨_,_,ZaT X G a2,F2,F2.binds λ_ _ _ _ _ _ us hl=>by obtain⟨_,rfl⟩:=zY hl;rfl⟩⟩
 have F3:=cI (st:=top 6) l3 c3 k3;have D3:bO K mg "cells_by_colour" (top 6) ["picture"]:=⟨⟨_,_,ZaT X G a3,F3,F3.binds λ_ _ _ _ _ _ us hl=>by obtain⟨_,rfl⟩:=zY hl;rfl⟩⟩
 have F4:=cI (st:=top 7) l4 c4 k4;have D4:bO K mg "sets_by_colour" (top 7) ["picture"]:=⟨⟨_,_,ZaT X G a4,F4,F4.binds λ_ _ _ _ _ _ us hl=>by obtain⟨_,rfl⟩:=zY hl;rfl⟩⟩
 have F5:=cI (st:=top 8) l5 c5 k5;have D5:bO K mg "state_of" (top 8) ["sets","choices","number"]:=⟨⟨_,_,ZaT X G a5,F5,F5.binds λ_ _ _ _ _ _ us hl=>by obtain⟨_,_,_,rfl⟩:=Hs hl;rfl⟩⟩
 have F6:=cI (st:=top 9) l6 c6 k6;have D6:bO K mg "states_by" (top 9) ["bench","picture","choices"]:=⟨⟨_,_,ZaT X G a6,F6,F6.binds λ_ _ _ _ _ _ us hl=>by obtain⟨_,_,_,rfl⟩:=Hs hl;rfl⟩⟩
 have F7:=cI (st:=top 11) l7 c7 k7;have D7:bO K mg "_law_cell_at" (top 11) ["_law_script","_law_k"]:=⟨⟨_,_,ZaT X G a7,F7,F7.binds λ_ _ _ _ _ _ us hl=>by obtain⟨_,_,rfl⟩:=yg hl;rfl⟩⟩
 have F8:=cI (st:=top 12) l8 c8 k8;have D8:bO K mg "_law_mixed" (top 12) ["_law_cell","_law_k"]:=⟨⟨_,_,ZaT X G a8,F8,F8.binds λ_ _ _ _ _ _ us hl=>by obtain⟨_,_,rfl⟩:=yg hl;rfl⟩⟩
 have F9:=cI (st:=top 13) l9 c9 k9;have D9:bO K mg "_law_number" (top 13) ["_law_script","_law_k","_law_at"]:=⟨⟨_,_,ZaT X G a9,F9,F9.binds λ_ _ _ _ _ _ us hl=>by obtain⟨_,_,_,rfl⟩:=Hs hl;rfl⟩⟩
 have F10:=cI (st:=top 14) l10 c10 k10;have D10:bO K mg "_law_word" (top 14) ["_law_place","_law_k"]:=⟨⟨_,_,ZaT X G a10,F10,F10.binds λ_ _ _ _ _ _ us hl=>by obtain⟨_,_,rfl⟩:=yg hl;rfl⟩⟩
 have F11:=cI (st:=top 15) l11 c11 k11;have D11:bO K mg "_law_glaze" (top 15) ["_law_number_here","_law_colours"]:=⟨⟨_,_,ZaT X G a11,F11,F11.binds λ_ _ _ _ _ _ us hl=>by obtain⟨_,_,rfl⟩:=yg hl;rfl⟩⟩
 have F12:=cI (st:=top 16) l12 c12 k12;have D12:bO K mg "_law_bench" (top 16) ["_law_script"]:=⟨⟨_,_,ZaT X G a12,F12,F12.binds λ_ _ _ _ _ _ us hl=>by obtain⟨_,rfl⟩:=zY hl;rfl⟩⟩
 have F13:=cI (st:=top 17) l13 c13 k13;have D13:bO K mg "_law_shows" (top 17) ["_law_bench_here","_law_stack"]:=⟨⟨_,_,ZaT X G a13,F13,F13.binds λ_ _ _ _ _ _ us hl=>by obtain⟨_,_,rfl⟩:=yg hl;rfl⟩⟩
 have F14:=cI (st:=top 19) l14 c14 k14;have D14:bO K mg "_law_order" (top 19) ["_law_stack"]:=⟨⟨_,_,ZaT X G a14,F14,F14.binds λ_ _ _ _ _ _ us hl=>by obtain⟨_,rfl⟩:=zY hl;rfl⟩⟩
 have F15:=cI (st:=top 18) l15 c15 k15;have D15:bO K mg "_law_all" (top 18) ["_law_many"]:=⟨⟨_,_,ZaT X G a15,F15,F15.binds λ_ _ _ _ _ _ us hl=>by obtain⟨_,rfl⟩:=zY hl;rfl⟩⟩
 have F16:=cI (st:=top 20) l16 c16 k16;have D16:bO K mg "_law_size" (top 20) ["_law_cell"]:=⟨⟨_,_,ZaT X G a16,F16,F16.binds λ_ _ _ _ _ _ us hl=>by obtain⟨_,rfl⟩:=zY hl;rfl⟩⟩
 have F17:=cI (st:=top 21) l17 c17 k17;have D17:bO K mg "_law_picture" (top 21) ["_law_script","_law_at","_law_some"]:=⟨⟨_,_,ZaT X G a17,F17,F17.binds λ_ _ _ _ _ _ us hl=>by obtain⟨_,_,_,rfl⟩:=Hs hl;rfl⟩⟩
 have F18:=cI (st:=top 22) l18 c18 k18;have D18:bO K mg "_law_choices" (top 22) ["_law_script","_law_bench_here","_law_picture_here"]:=⟨⟨_,_,ZaT X G a18,F18,F18.binds λ_ _ _ _ _ _ us hl=>by obtain⟨_,_,_,rfl⟩:=Hs hl;rfl⟩⟩
 have F19:=cI (st:=top 23) l19 c19 k19;have D19:bO K mg "_law_due" (top 23) ["_law_bench_here","_law_picture_here","_law_choices_here"]:=⟨⟨_,_,ZaT X G a19,F19,F19.binds λ_ _ _ _ _ _ us hl=>by obtain⟨_,_,_,rfl⟩:=Hs hl;rfl⟩⟩
 have F20:=cI (st:=top 24) l20 c20 k20;have D20:bO K mg "_law_right" (top 24) ["_law_found","_law_due_here"]:=⟨⟨_,_,ZaT X G a20,F20,F20.binds λ_ _ _ _ _ _ us hl=>by obtain⟨_,_,rfl⟩:=yg hl;rfl⟩⟩
 have F21:=cI (st:=top 25) l21 c21 k21;refine⟨fnOf "law" "law" (bA (top 25)) (bu (top 25)) (aM (top 25)) .none kV21 dc21 pm21 an21 cd21 ct21,λs v=>.of_eq rfl,λbase _ _=>?_⟩;have G0:=Bg (P:=l.prog) (w:=w) (base:=base) T D0;have G1:=Il (P:=l.prog) (w:=w) (base:=base) T D1 G0;have G2:=Dq (P:=l.prog) (w:=w) (base:=base) T D2;have G3:=pG (P:=l.prog) (w:=w) (base:=base) T D3;have G4:=qK (P:=l.prog) (w:=w) (base:=base) T D4 G2 G3 G1;have G5:=Bh (P:=l.prog) (w:=w) (base:=base) T D5;have G6:=yz (P:=l.prog) (w:=w) (base:=base) T D6 G4 G5;have G7:=yD (P:=l.prog) (w:=w) (base:=base) T D7;have G8:=Dt (P:=l.prog) (w:=w) (base:=base) T D8;have G9:=Bj (P:=l.prog) (w:=w) (base:=base) T D9 G7 G8;have G10:=Io (P:=l.prog) (w:=w) (base:=base) T D10;have G11:=Du (P:=l.prog) (w:=w) (base:=base) T D11;have G12:=Dv (P:=l.prog) (w:=w) (base:=base) T D12 G9 G10 G7 G11;have G13:=Dw (P:=l.prog) (w:=w) (base:=base) T D13;have G14:=Dz (P:=l.prog) (w:=w) (base:=base) T D14;have G15:=LC (P:=l.prog) (w:=w) (base:=base) T D15 G14;have G16:=Ir (P:=l.prog) (w:=w) (base:=base) T D16;have G17:=yE (P:=l.prog) (w:=w) (base:=base) T D17 G16 G7 G9 G8;have G18:=yF (P:=l.prog) (w:=w) (base:=base) T D18 G15 G13 G9;have G19:=LK (P:=l.prog) (w:=w) (base:=base) T D19;have G20:=DK (P:=l.prog) (w:=w) (base:=base) T D20;exact R7 (P:=l.prog) (w:=w) (base:=base) T F21 G12 G15 G13 G17 G18 G19 G6 G20
theorem walk{l:PySem.W.OpenLaw}{q:Program}{loose:List Str}{XP:(Str->Option Value)->Heap->Prop}{YP:World->Heap->Prop}{d:DefRec}{K:Params->Frag}(hn:l.most=some 63)(hdf:d.params.defaults=[])
  (hY:∀ (w:World) (h:Heap),YP w h->(K w.params).In h)
  (F:∀ (w:World) (mg:Str->Option Value) (fa:Addr) (h:Heap),(K w.params).In h->h.Ns mainGlobals mg->mg d.name=some (.ref fa) ->
   ∃ fd:FuncData,(∀ (s:Shared) (u:Value),BindsTo s fd ⟨[u],[]⟩ [("_law_script",u)])/\∀ base:Heap,(K w.params).In base->base.Ns mainGlobals mg->vf l.prog w (K w.params) mg base CX0 6 fa fd ["_law_script"] (spM (K w.params) XR0 wQ))
  (main:∀ ns:List Int,ns.length<=63->wQ [.lst (ns.map PV.int)]=some (.ok (.bl true))) :
  PySem.W.WalkO q loose XP YP l.row.toRowW d [] (λf vs=>PySem.call f vs):=
 L2.Mw (n:=63) (k:=6) (x:="_law_script") (CX:=λ_=>CX0) (sp:=λw=>spM (K w.params) XR0 wQ) hn (by decide) hdf ⟨rfl,by decide,by decide⟩ hY F (λw H a ns hl _ hS=>⟨[.lst (ns.map PV.int)],H,.ok (.bl true),aR.refl _,bG.nil.cons (.lst hS (bG.xq (K:=K w.params) (F:=H) ns).1 (bG.xq ns).2),main ns hl,λv F' H' _ rv=>Rep.j7 rv⟩) λ_ _ _ _ _ z=>z
end MM
open PySem PySem.W PyProof.Rows
set_option maxRecDepth 100000 in
set_option maxHeartbeats 0 in
theorem PySem.Challenge.cw_lostblock_k19_states_by_choices_holds : PySem.Challenge.rw_lostblock_k19_states_by_choices.Holds := by
 w_on;o_law;o_head (kHook MM.KK [3,20,21,27,28,34,35,41,42,46,47,53,54,58,59,65,66,72,73,79,80,86,87,91,92,96,97,103,104,108,109,115,116,122,123,129,130,136,137,143,144,148,149,153,154] (λ_=>by kernel_rfl));(case hw=>w_witness2)
 k_fill
 refine MM.walk (l:=PySem.Challenge.rw_lostblock_k19_states_by_choices) rfl rfl (λw h Y=>PySem.W.kIn_of Y) ?F MM.law_main
 case F=>
  intro w mg fa h KX G hmg;refine' MM.R8 KX G hmg ?a0 ?l0 ?c0 ?k0 ?a1 ?l1 ?c1 ?k1 ?a2 ?l2 ?c2 ?k2 ?a3 ?l3 ?c3 ?k3 ?a4 ?l4 ?c4 ?k4 ?a5 ?l5 ?c5 ?k5 ?a6 ?l6 ?c6 ?k6 ?a7 ?l7 ?c7 ?k7 ?a8 ?l8 ?c8 ?k8 ?a9 ?l9 ?c9 ?k9 ?a10 ?l10 ?c10 ?k10 ?a11 ?l11 ?c11 ?k11 ?a12 ?l12 ?c12 ?k12 ?a13 ?l13 ?c13 ?k13 ?a14 ?l14 ?c14 ?k14 ?a15 ?l15 ?c15 ?k15 ?a16 ?l16 ?c16 ?k16 ?a17 ?l17 ?c17 ?k17 ?a18 ?l18 ?c18 ?k18 ?a19 ?l19 ?c19 ?k19 ?a20 ?l20 ?c20 ?k20 ?a21 ?l21 ?c21 ?k21 ?LR ?DW ?DX ?nj ?Ma ?lE ?Mf ?DY ?yJ ?Mi ?vd ?yK
  (case a0=>k_is)
  (case l0=>k_is)
  (case c0=>k_is)
  (case k0=>k_is)
  (case a1=>k_is)
  (case l1=>k_is)
  (case c1=>k_is)
  (case k1=>k_is)
  (case a2=>k_is)
  (case l2=>k_is)
  (case c2=>k_is)
  (case k2=>k_is)
  (case a3=>k_is)
  (case l3=>k_is)
  (case c3=>k_is)
  (case k3=>k_is)
  (case a4=>k_is)
  (case l4=>k_is)
  (case c4=>k_is)
  (case k4=>k_is)
  (case a5=>k_is)
  (case l5=>k_is)
  (case c5=>k_is)
  (case k5=>k_is)
  (case a6=>k_is)
  (case l6=>k_is)
  (case c6=>k_is)
  (case k6=>k_is)
  (case a7=>k_is)
  (case l7=>k_is)
  (case c7=>k_is)
  (case k7=>k_is)
  (case a8=>k_is)
  (case l8=>k_is)
  (case c8=>k_is)
  (case k8=>k_is)
  (case a9=>k_is)
  (case l9=>k_is)
  (case c9=>k_is)
  (case k9=>k_is)
  (case a10=>k_is)
  (case l10=>k_is)
  (case c10=>k_is)
  (case k10=>k_is)
  (case a11=>k_is)
  (case l11=>k_is)
  (case c11=>k_is)
  (case k11=>k_is)
  (case a12=>k_is)
  (case l12=>k_is)
  (case c12=>k_is)
  (case k12=>k_is)
  (case a13=>k_is)
  (case l13=>k_is)
  (case c13=>k_is)
  (case k13=>k_is)
  (case a14=>k_is)
  (case l14=>k_is)
  (case c14=>k_is)
  (case k14=>k_is)
  (case a15=>k_is)
  (case l15=>k_is)
  (case c15=>k_is)
  (case k15=>k_is)
  (case a16=>k_is)
  (case l16=>k_is)
  (case c16=>k_is)
  (case k16=>k_is)
  (case a17=>k_is)
  (case l17=>k_is)
  (case c17=>k_is)
  (case k17=>k_is)
  (case a18=>k_is)
  (case l18=>k_is)
  (case c18=>k_is)
  (case k18=>k_is)
  (case a19=>k_is)
  (case l19=>k_is)
  (case c19=>k_is)
  (case k19=>k_is)
  (case a20=>k_is)
  (case l20=>k_is)
  (case c20=>k_is)
  (case k20=>k_is)
  (case a21=>k_is)
  (case l21=>k_is)
  (case c21=>k_is)
  (case k21=>k_is)
  (case LR=>k_is)
  (case DW=>k_is)
  (case DX=>k_is)
  (case nj=>k_is)
  (case Ma=>k_is)
  (case lE=>k_is)
  (case Mf=>k_is)
  (case DY=>k_is)
  (case yJ=>k_is)
  (case Mi=>k_is)
  (case vd=>k_is)
  (case yK=>k_is)
#print axioms PySem.Challenge.cw_lostblock_k19_states_by_choices_holds
