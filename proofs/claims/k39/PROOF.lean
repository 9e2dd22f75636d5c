import PyProof.Rows.All
import Wide.All
import OpenK.AllK
import Wide.FinOn
import Lean
import PyProof.EqAt
import PyProof.EqKinds
import PyProof.TupleCall
import KE.BitLaws
import KE.KMinKey
import KE.KLam
import KE.KClos
import KE.KIntText
import KE.KDictList
import PySem.Challenge.RW_lampforge_k39_papers_by_hand
open PySem.W (instObj methodObj lookIn plainGet hasDictIn findIn plainGet_of isFn plainOver takerIn makesIn emptyDict keepIn kia_one kitx_list kitx_dict callWith_K fnOf codeIn tabObj noTabs fnX envX kitAny kia_tup nsIn tabIn mg_of mg_none_of behindTheImports boot_heap boot_drawn boot_toks segRunT piecesOf piece_app segRun_of xlAt recOk kHook)
set_option genSizeOfSpec false
noncomputable section
set_option Elab.async false
set_option linter.all false
set_option maxRecDepth 100000
namespace L2
open PySem PySem.Spec PyProof.Rows
abbrev Key:=Sum Int Str
def keyIs:Key->Value->Bool
 | .inl k,v=>Value.isInt k v
 | .inr x,v=>Value.isStrOf x v
def keyH(w:World):Key->Int
 | .inl k=>hashInt k
 | .inr x=>hashStr w x
theorem x_e:∀ {k:Key} {v:Value},keyIs k v=true->(∃ i t,k=Sum.inl i/\v=Value.int i t)\/(∃ x t,k=Sum.inr x/\v=Value.str x t)
 | .inl i,v,h=>by
  obtain ⟨t,e⟩:=Value.isInt_shape (k:=i) (v:=v) h
  exact .inl ⟨i,t,rfl,e⟩
 | .inr x,v,h=>by
  obtain ⟨t,e⟩:=Value.isStrOf_shape (x:=x) (v:=v) h
  exact .inr ⟨x,t,rfl,e⟩
theorem h_p(i:Int)(t:Tok):keyIs (.inl i) (.int i t)=true:=by simp [keyIs,Value.isInt]
theorem h_q(x:Str)(t:Tok):keyIs (.inr x) (.str x t)=true:=by simp [keyIs,Value.isStrOf]
theorem key_ll(a b:Int):decide ((Sum.inl a:Key)=Sum.inl b)=(a == b):=by
 by_cases e:a=b
 ·subst e;simp
 ·have h:¬(Sum.inl a:Key)=Sum.inl b:=fun q=>e (Sum.inl.inj q)
  rw [decide_eq_false h]
  exact (beq_eq_false_iff_ne.mpr e).symm
theorem key_rr(a b:Str):decide ((Sum.inr a:Key)=Sum.inr b)=decide (a=b):=by
 by_cases e:a=b
 ·subst e;simp
 ·have h:¬(Sum.inr a:Key)=Sum.inr b:=fun q=>e (Sum.inr.inj q)
  rw [decide_eq_false h,decide_eq_false e]
theorem key_lr(a:Int)(b:Str):decide ((Sum.inl a:Key)=Sum.inr b)=false:=decide_eq_false (fun q=>nomatch q)
theorem key_rl(a:Str)(b:Int):decide ((Sum.inr a:Key)=Sum.inl b)=false:=decide_eq_false (fun q=>nomatch q)
def mixKind(prog:Program)(w:World):PySem.KeyKind prog w Key where
 is:=keyIs
 hash:=keyH w
 inj:=fun v a b ha hb=>by
  rcases x_e ha with ⟨i,t,rfl,rfl⟩ | ⟨x,t,rfl,rfl⟩
  ·rcases x_e hb with ⟨j,u,rfl,e⟩ | ⟨y,u,rfl,e⟩
   ·injection e with e1 _;rw [e1]
   ·exact nomatch e
  ·rcases x_e hb with ⟨j,u,rfl,e⟩ | ⟨y,u,rfl,e⟩
   ·exact nomatch e
   ·injection e with e1 _;rw [e1]
 byValue:=fun k v h=>by
  rcases x_e h with ⟨i,t,rfl,rfl⟩ | ⟨x,t,rfl,rfl⟩<;>rfl
 pyHash:=fun hv h=>by
  rcases x_e hv with ⟨i,t,rfl,rfl⟩ | ⟨x,t,rfl,rfl⟩
  ·exact wpAny_pyHash_int h
  ·exact wpAny_pyHash_str h
 eqBool:=fun hu hv h=>by
  rcases x_e hu with ⟨i,t,rfl,rfl⟩ | ⟨x,t,rfl,rfl⟩
  ·rcases x_e hv with ⟨j,u,rfl,rfl⟩ | ⟨y,u,rfl,rfl⟩
   ·rw [key_ll] at h;exact wpAny_eqBool_int h
   ·rw [key_lr] at h;exact SeqAt.EqAt.int_str i t y u _ _ _ _ h
  ·rcases x_e hv with ⟨j,u,rfl,rfl⟩ | ⟨y,u,rfl,rfl⟩
   ·rw [key_rl] at h;exact SeqAt.EqAt.str_int x t j u _ _ _ _ h
   ·rw [key_rr] at h;exact wpAny_eqBool_str h
 «strs» := fun k x t v h=>by
  rcases x_e h with ⟨i,u,rfl,e⟩ | ⟨y,u,rfl,e⟩
  ·exact nomatch e
  ·injection e with e1 _
   subst e1
   cases v<;>rfl
theorem m_s(prog:Program)(w:World)(i:Int)(t:Tok):(mixKind prog w).is (.inl i) (.int i t)=true:=h_p i t
theorem m_t(prog:Program)(w:World)(x:Str)(t:Tok):(mixKind prog w).is (.inr x) (.str x t)=true:=h_q x t
inductive V where
 | non | bl (b:Bool) | int (i:Int) | str (x:Str) | byt (b:Array UInt8) | flt (b:UInt64) | ref (a:Addr) | ty (n:String)
 deriving DecidableEq
def RelV:V->Value->Prop
 | .non,u=>u=Value.none
 | .bl b,u=>u=Value.bool b
 | .int i,u=>∃ t,u=Value.int i t
 | .str x,u=>∃ t,u=Value.str x t
 | .byt b,u=>∃ t,u=Value.bytes b t
 | .flt b,u=>∃ t,u=Value.float b t
 | .ref a,u=>u=Value.ref a
 | .ty n,u=>u=Value.type n
abbrev Vals:List V->List Value->Prop:=Paired RelV
theorem Vals.length{xs:List V}{us:List Value}(r:Vals xs us):xs.length=us.length:=Paired.length r
theorem Vals.get:∀ {xs:List V} {us:List Value} {i:Nat} {x:V},Vals xs us->xs[i]? = some x->∃ u,us[i]? = some u/\RelV x u
 | _,_,_,_,.nil,e=>by simp at e
 | _,_,0,_,.cons r _,e=>by simp at e;subst e;exact ⟨_,rfl,r⟩
 | _,_,i+1,x,.cons _ t,e=>by
  obtain ⟨u,h1,h2⟩:=Vals.get (i:=i) (x:=x) t (by simpa using e)
  exact ⟨u,by simpa using h1,h2⟩
theorem Vals.set{x:V}{u:Value}(r:RelV x u):∀ {xs:List V} {us:List Value} (i:Nat),Vals xs us->Vals (xs.set i x) (us.set i u)
 | _,_,_,.nil=>.nil
 | _,_,0,.cons _ t=>.cons r t
 | _,_,i+1,.cons q t=>.cons q (Vals.set r i t)
theorem Vals.append:∀ {xs ys:List V} {us ws:List Value},Vals xs us->Vals ys ws->Vals (xs++ys) (us++ws)
 | _,_,_,_,.nil,s=>s
 | _,_,_,_,.cons r t,s=>.cons r (Vals.append t s)
theorem Vals.take:∀ {xs:List V} {us:List Value} (n:Nat),Vals xs us->Vals (xs.take n) (us.take n)
 | _,_,0,_=>.nil
 | _,_,_+1,.nil=>.nil
 | _,_,n+1,.cons r t=>.cons r (Vals.take n t)
theorem Vals.drop:∀ {xs:List V} {us:List Value} (n:Nat),Vals xs us->Vals (xs.drop n) (us.drop n)
 | _,_,0,r=>r
 | _,_,_+1,.nil=>.nil
 | _,_,n+1,.cons _ t=>Vals.drop n t
def RelO:Option V->Option Value->Prop
 | some v,some u=>RelV v u
 | none,none=>True
 | _,_=>False
def KV{κ:Type}:List (κ×V)->List (κ×Value)->Prop:=Paired fun (p:κ×V) (q:κ×Value)=>p.1=q.1/\RelV p.2 q.2
def kV:Key->V
 | .inl i=>.int i
 | .inr x=>.str x
inductive HO where
 | lst (xs:List V)
 | tup (xs:List V)
 | dK (kvs:List (Key×V)) | dT (kvs:List (List Key×V))
 | set (S:Int->Bool) (n:Nat)
 | ins (C dx:Addr) (fs:List (Str×V))
 | own (x:Addr)
 | xd (fs:List (Str×V))
 | met (f x:Addr)
 | rng (lo hi:Int)
 | frz (o:Obj) (u:HO)
 | tbl (pos:Pos) (qual:Str)
 | ext (φ:Heap->Prop)
abbrev Hp:=Addr->Option HO
def upd(H:Hp)(a:Addr)(o:HO):Hp:=fun b=>if b=a then some o else H b
theorem z_d{H:Hp}{a:Addr}{o:HO}:upd H a o a=some o:=by unfold upd;rw [if_pos rfl]
theorem z_r{H:Hp}{a b:Addr}{o:HO}(h:b≠a):upd H a o b=H b:=by unfold upd;rw [if_neg h]
theorem ne_of{H:Hp}{a b:Addr}{o u:HO}(h:H a=some o)(h':H b=some u)(d:o≠u):a≠b:=by
 intro e;subst e;rw [h] at h';exact d (Option.some.inj h')
theorem z_i{H:Hp}{a b:Addr}{o:HO}(h:H a=some o)(h':H b=none):a≠b:=by
 intro e;subst e;rw [h] at h';cases h'
section
variable (P:Program) (w:World)
def ObjOk(H:Hp)(h:Heap)(a:Addr):HO->Prop
 | .lst xs=>xs.length<=sizeLine/\∃ (its:List Value) (n:Nat),Vals xs its/\h.get? a=some { cls:=.type "list",data:=.seq its.toArray n }
 | .tup xs=>xs.length<=sizeLine/\∃ its:List Value,Vals xs its/\IsTup h a its.toArray
 | .dK kvs=>kvs.length<=sizeLine/\(a == sysModules)=false/\∃ vs,KV kvs vs/\h.DictOf (mixKind P w) a vs
 | .dT kvs=>kvs.length<=sizeLine/\(a == sysModules)=false/\∃ xs:List (List Key×Addr×Value),
   Paired (fun (p:List Key×V) (q:List Key×Addr×Value)=>p.1=q.1/\H q.2.1=some (.tup (p.1.map kV))/\RelV p.2 q.2.2) kvs xs /\
   ∃ o es ep,h.get? a=some o/\o.ExactDict/\o.data = .dict es ep/\es.toList=xs.map (entryOfKey (tupleKind (mixKind P w)))/\(xs.map (·.1)).Nodup
 | .set S n=>h.SetOf (intKind P w) a S n
 | .ins C dx fs=>H dx=some (.own a)/\fs.length<=1000/\dx≠a/\h.get? a=some (instObj C dx) /\
   ∃ mA,h.Ns1 dx mA/\(∀ f,RelO (fs.lookup f) (mA f))/\PySem.Within mA (fs.map (·.1))
 | .own _=>∃ o,h.get? a=some o
 | .xd fs=>∃ mA,h.Ns1 a mA/\∀ f,RelO (fs.lookup f) (mA f)
 | .rng lo hi=>∃ t u v,h.get? a=some { cls:=.type "range",data:=.fields #[.int lo t,.int hi u,.int 1 v] }
 | .frz o u=>h.get? a=some o/\ObjOk H h a u
 | .tbl pos qual=>∃ ps:Array Value,h.get? a=some { cls:=.none,data:=.fields ps }/\TriplesOk ps.toList/\(codeAmong pos ps.toList=none\/∃ c oc vs tq,codeAmong pos ps.toList=some (.ref c)/\H c=some (.frz oc (.own a))/\oc.data = .fields vs/\vs[1]? = some (.str qual tq))
 | .met f x=>h.get? a=some (methodObj (.ref f) (.ref x))
 | .ext φ=>φ h/\(∃ o,h.get? a=some o)/\∀ h1 h2:Heap,φ h1->(∀ o,h1.get? a=some o->h2.get? a=some o)->φ h2
def HOk(H:Hp)(h:Heap):Prop:=∀ a o,H a=some o->ObjOk P w H h a o
end
section
variable {P:Program} {w:World} {H H':Hp} {h h':Heap} {a:Addr} {o:HO}
theorem ObjOk.lt(x:ObjOk P w H h a o):a<h.objs.size:=by
 cases o with
 | lst xs=>obtain ⟨_,_,_,_,e⟩:=x;exact Heap.lt_size e
 | tup xs=>obtain ⟨_,_,_,p⟩:=x;exact p.lt
 | dK kvs=>obtain ⟨_,_,_,_,o,_,_,e,_⟩:=x;exact Heap.lt_size e
 | dT kvs=>obtain ⟨_,_,_,_,o,_,_,e,_⟩:=x;exact Heap.lt_size e
 | set S n=>obtain ⟨o,_,_,_,e,_⟩:=x;exact Heap.lt_size e
 | ins C dx fs=>obtain ⟨_,_,_,e,_⟩:=x;exact Heap.lt_size e
 | own y=>obtain ⟨_,e⟩:=x;exact Heap.lt_size e
 | xd fs=>obtain ⟨_,⟨_,_,_,e,_⟩,_⟩:=x;exact Heap.lt_size e
 | rng lo hi=>obtain ⟨_,_,_,e⟩:=x;exact Heap.lt_size e
 | frz ob u=>obtain ⟨e,_⟩:=x;exact Heap.lt_size e
 | tbl pos qual=>obtain ⟨_,e,_⟩:=x;exact Heap.lt_size e
 | met f y=>exact Heap.lt_size (show h.get? a=some _ from x)
 | ext φ=>obtain ⟨_,⟨_,e⟩,_⟩:=x;exact Heap.lt_size e
theorem Paired.mapP{α β:Type}{F G:α->β->Prop}:∀ {l₁:List α} {l₂:List β},Paired F l₁ l₂->(∀ a b,F a b->G a b)->Paired G l₁ l₂
 | _,_,.nil,_=>.nil
 | _,_,.cons r t,f=>.cons (f _ _ r) (Paired.mapP t f)
theorem ObjOk.stay(x:ObjOk P w H h a o)(k:∀ b u,(b=a\/H b=some (.own a))->h.get? b=some u->h'.get? b=some u)
  (ho:∀ b,H b=some (.own a)->H' b=some (.own a)) (ht:∀ b xs,H b=some (.tup xs)->H' b=some (.tup xs)) (hz:∀ b o u,H b=some (.frz o u)->H' b=some (.frz o u)):ObjOk P w H' h' a o:=by
 induction o with
 | lst xs=>obtain ⟨z,its,n,r,e⟩:=x;exact ⟨z,its,n,r,k _ _ (.inl rfl) e⟩
 | tup xs=>obtain ⟨z,its,r,ob,e,c⟩:=x;exact ⟨z,its,r,ob,k _ _ (.inl rfl) e,c⟩
 | dK kvs=>obtain ⟨z,y,vs,r,ob,es,ep,e,c⟩:=x;exact ⟨z,y,vs,r,ob,es,ep,k _ _ (.inl rfl) e,c⟩
 | dT kvs =>
  obtain ⟨z,y,xs,r,ob,es,ep,e,c⟩:=x
  exact ⟨z,y,xs,Paired.mapP r fun p q z=>⟨z.1,ht _ _ z.2.1,z.2.2⟩,ob,es,ep,k _ _ (.inl rfl) e,c⟩
 | set S n=>obtain ⟨ob,es,ep,t,e,c⟩:=x;exact ⟨ob,es,ep,t,k _ _ (.inl rfl) e,c⟩
 | ins C dx fs =>
  obtain ⟨d,z,ne,e,mA,⟨od,es,ep,e2,c⟩,r⟩:=x
  exact ⟨ho _ d,z,ne,k _ _ (.inl rfl) e,mA,⟨od,es,ep,k _ _ (.inr d) e2,c⟩,r⟩
 | own y=>obtain ⟨ob,e⟩:=x;exact ⟨ob,k _ _ (.inl rfl) e⟩
 | xd fs=>obtain ⟨mA,⟨od,es,ep,e,c⟩,r⟩:=x;exact ⟨mA,⟨od,es,ep,k _ _ (.inl rfl) e,c⟩,r⟩
 | rng lo hi=>obtain ⟨t,u,v,e⟩:=x;exact ⟨t,u,v,k _ _ (.inl rfl) e⟩
 | frz ob u ih=>obtain ⟨e,q⟩:=x;exact ⟨k _ _ (.inl rfl) e,ih q⟩
 | tbl pos qual =>
  obtain ⟨ps,e,t,c⟩:=x
  refine ⟨ps,k a _ (.inl rfl) e,t,?_⟩
  rcases c with c | ⟨c,oc,vs,tq,c1,c2,c3⟩
  ·exact .inl c
  ·exact .inr ⟨c,oc,vs,tq,c1,hz _ _ _ c2,c3⟩
 | met f y =>
  have e:h.get? a=some (methodObj (.ref f) (.ref y)):=x
  show h'.get? a=some (methodObj (.ref f) (.ref y))
  exact k a _ (.inl rfl) e
 | ext φ=>obtain ⟨p,⟨o,e⟩,st⟩:=x;exact ⟨st _ _ p fun o q=>k _ _ (.inl rfl) q,⟨o,k _ _ (.inl rfl) e⟩,st⟩
theorem HOk.lt(x:HOk P w H h)(e:H a=some o):a<h.objs.size:=(x a o e).lt
theorem HOk.fresh(x:HOk P w H h)(e:h.objs.size<=a):H a=none:=by
 cases q:H a with
 | none=>rfl
 | some u=>exact absurd (Nat.lt_of_lt_of_le (x.lt q) e) (Nat.lt_irrefl _)
theorem HOk.kept(x:HOk P w H h)(k:∀ b u,h.get? b=some u->h'.get? b=some u):HOk P w H h':=fun a o e =>
 (x a o e).stay (fun b u _ q=>k b u q) (fun _ q=>q) (fun _ _ q=>q) fun _ _ _ q=>q
theorem HOk.laid(x:HOk P w H h)(k:∀ b u,h.get? b=some u->h'.get? b=some u)(hp:h.objs.size<=a)(new:ObjOk P w (upd H a o) h' a o):HOk P w (upd H a o) h':=fun b u e=>by
 have hn:=x.fresh hp
 by_cases hb:b=a
 ·subst hb;rw [z_d] at e;cases e;exact new
 ·rw [z_r hb] at e
  exact (x b u e).stay (fun c v _ q=>k c v q) (fun c q=>by rw [z_r (z_i q hn)];exact q) (fun c xs q=>by rw [z_r (z_i q hn)];exact q) fun c ob xs q=>by rw [z_r (z_i q hn)];exact q
end
def Rd(H:Hp)(a:Addr)(u:HO):Prop:=H a=some u\/∃ o,H a=some (.frz o u)
theorem Rd.ok{P:Program}{w:World}{H:Hp}{h:Heap}{a:Addr}{u:HO}(r:Rd H a u)(x:HOk P w H h):ObjOk P w H h a u:=by
 rcases r with r | ⟨o,r⟩
 ·exact x a u r
 ·obtain ⟨_,q⟩:=x a _ r
  exact q
def Mut:Option HO->Prop
 | some (.lst _)=>True
 | some (.dK _)=>True
 | some (.dT _)=>True
 | some (.set _ _)=>True
 | some (.ins _ _ _)=>True
 | some (.ext _)=>True
 | _=>False
section
variable {P:Program} {w:World} {H:Hp} {h h':Heap} {x e:Addr} {o':HO}
theorem HOk.write(ok:HOk P w H h)(mu:Mut (H x))(he:e=x\/H e=some (.own x))(k:∀ b u,b≠e->h.get? b=some u->h'.get? b=some u)(heo:∃ u,h'.get? e=some u)
  (new:ObjOk P w (upd H x o') h' x o'):HOk P w (upd H x o') h':=fun b u q=>by
 have nown:∀ c y,H c=some (.own y)->c≠x:=fun c y r z=>by subst z;rw [r] at mu;exact mu
 have ntup:∀ c xs,H c=some (.tup xs)->c≠x:=fun c xs r z=>by subst z;rw [r] at mu;exact mu
 by_cases hb:b=x
 ·subst hb;rw [z_d] at q;cases q;exact new
 ·rw [z_r hb] at q
  by_cases hbe:b=e
  ·have q':H b=some (.own x):=by
    rcases he with z | z
    ·exact absurd (hbe.trans z) hb
    ·rw [hbe];exact z
   rw [q] at q';cases q'
   obtain ⟨v,hv⟩:=heo
   exact ⟨v,by rw [hbe];exact hv⟩
  ·refine (ok b u q).stay (fun c v hc r=>k c v ?_ r) (fun c r=>by rw [z_r (nown c b r)];exact r) (fun c xs r=>by rw [z_r (ntup c xs r)];exact r) fun c ob xs r=>by rw [z_r (fun z=>by subst z;rw [r] at mu;exact mu)];exact r
   rcases hc with rfl | hc
   ·exact hbe
   ·rintro rfl
    rcases he with z | z
    ·exact nown c b hc z
    ·rw [hc] at z;cases z;exact hb rfl
end
structure Un(fs ex:List Addr)(H H':Hp)(h h':Heap):Prop where
 keep:∀ b o,h.get? b=some o->H b=none->b∉fs->b∉ex->h'.get? b=some o
 slot:∀ b o,h.get? b=some o->H b=none->b∈fs->b∉ex->∃ sl,h'.get? b=some { o with slots:=sl }
 free:∀ b o,h.get? b=some o->H b=none->b∉ex->H' b=none
 there:∀ b o,h.get? b=some o->b∉ex->∃ o',h'.get? b=some o'
 tups:∀ b xs,H b=some (.tup xs)->H' b=some (.tup xs)
 frzs:∀ b o u,H b=some (.frz o u)->H' b=some (.frz o u)
 tbls:∀ b p q,H b=some (.tbl p q)->H' b=some (.tbl p q)
section
variable {fs fs' ex ex':List Addr} {H H1 H2:Hp} {h h1 h2 h':Heap} {a x e:Addr} {o:HO}
theorem Un.any(u:Un fs ex H H1 h h1){b:Addr}{ob:Obj}(q:h.get? b=some ob)(n:H b=none)(hx:b∉ex):∃ sl,h1.get? b=some { ob with slots:=sl }:=by
 by_cases hb:b∈fs
 ·exact u.slot b ob q n hb hx
 ·exact ⟨ob.slots,u.keep b ob q n hb hx⟩
theorem Un.kept(k:∀ b u,h.get? b=some u->h'.get? b=some u):Un fs ex H H h h' :=
 ⟨fun b ob q _ _ _=>k b ob q,fun b ob q _ _ _=>⟨ob.slots,k b ob q⟩,fun _ _ _ n _=>n,fun b ob q _=>⟨ob,k b ob q⟩,fun _ _ q=>q,fun _ _ _ q=>q,fun _ _ _ q=>q⟩
theorem Un.refl:Un fs ex H H h h:=Un.kept fun _ _ q=>q
theorem Un.laid(k:∀ b u,h.get? b=some u->h'.get? b=some u)(hp:h.objs.size<=a)(hn:H a=none):Un fs ex H (upd H a o) h h' where
 keep:=fun b u q _ _ _=>k b u q
 slot:=fun b u q _ _ _=>⟨u.slots,k b u q⟩
 free:=fun b u q n _=>by rw [z_r (Nat.ne_of_lt (Nat.lt_of_lt_of_le (Heap.lt_size q) hp))];exact n
 there:=fun b u q _=>⟨u,k b u q⟩
 tups:=fun b xs q=>by rw [z_r (z_i q hn)];exact q
 frzs:=fun b u xs q=>by rw [z_r (z_i q hn)];exact q
 tbls:=fun b p q z=>by rw [z_r (z_i z hn)];exact z
theorem Un.write(mu:Mut (H x))(he:e=x\/H e=some (.own x))(k:∀ b u,b≠e->h.get? b=some u->h'.get? b=some u)(heo:∃ u,h'.get? e=some u):Un fs ex H (upd H x o) h h':=by
 have hx:∀ b,H b=none->b≠x:=fun b n z=>by subst z;rw [n] at mu;exact mu
 have hb:∀ b,H b=none->b≠e:=fun b n z=>by
  subst z
  rcases he with r | r
  ·exact hx b n r
  ·rw [n] at r;cases r
 have hm:∀ b u,H b=some u->¬Mut (some u)->b≠x:=fun b u q nm z=>by subst z;rw [q] at mu;exact nm mu
 refine ⟨fun b u q n _ _=>k b u (hb b n) q,fun b u q n _ _=>⟨u.slots,k b u (hb b n) q⟩,fun b u q n _=>by rw [z_r (hx b n)];exact n,fun b u q _=>?_,
  fun b xs q=>by rw [z_r (hm b _ q fun z=>z)];exact q,fun b u xs q=>by rw [z_r (hm b _ q fun z=>z)];exact q,fun b p q z=>by rw [z_r (hm b _ z fun y=>y)];exact z⟩
 by_cases hbe:b=e
 ·subst hbe;exact heo
 ·exact ⟨u,k b u hbe q⟩
end
def trk(h:Heap)(H:Hp):List Addr:=(List.range h.objs.size).filter fun a=>(H a).isSome
def hidT(h:Heap)(H:Hp):Heap:=PySem.W.hideAll h (trk h H)
theorem o_l(h:Heap)(H:Hp):(hidT h H).objs.size=h.objs.size:=PySem.W.hideAll_size _ _
theorem q_v{h:Heap}{H:Hp}{b:Addr}{o:Obj}(e:h.get? b=some o)(n:H b=none):(hidT h H).get? b=some o :=
 PySem.W.hideAll_get _ e fun hm=>by
  have q:(H b).isSome=true:=(List.mem_filter.mp hm).2
  rw [n] at q;simp at q
theorem m_u{h:Heap}{H:Hp}{b:Addr}{o:Obj}(e:(hidT h H).get? b=some o):h.get? b=some o/\H b=none:=by
 have e':h.get? b=some o:=PySem.W.of_hideAll (trk h H) e
 refine ⟨e',?_⟩
 cases q:H b with
 | none=>rfl
 | some x =>
  have hm:b∈trk h H:=List.mem_filter.mpr ⟨List.mem_range.mpr (Heap.lt_size e'),by simp [q]⟩
  have z:(hidT h H).get? b=none:=PySem.W.hideAll_none (trk h H) hm
  rw [z] at e;cases e
open PySem PySem.Spec PyProof.Rows
structure Mod(K:PySem.W.Frag)(mg:Str->Option Value)(base:Heap):Prop where
 kin:K.In base
 glob:base.Ns mainGlobals mg
 blt:∃ mb,base.Ns builtinsNs mb/\∀ x:Str,x ≠ "__name__" -> mb x=bootBuiltins x
 nolimit:base.NoLimit
structure Cx where
 prog:Program
 w:World
 K:PySem.W.Frag
 mg:Str->Option Value
 base:Heap
 A:Around
 N:List Str
 s₀:Shared
 H₀:Hp
 env:Env
 outer:List Env
 stack:List Env
 ex:List Addr
 fn:Str->Bool
 calm:Bool
 pn:List (Addr×Obj)
 xe:Value->Shared->Prop
def frs(l:List Env):List Addr:=l.filterMap (·.frame)
abbrev Cx.fs(X:Cx):List Addr:=frs X.outer
def Vis(sc:Scope)(x:Str):Prop:=sc.names.lookup x=some .local\/sc.names.lookup x=some .cell\/sc.names.lookup x=some .free
def Loc(sc:Scope)(x:Str):Prop:=sc.names.lookup x=some .local\/sc.names.lookup x=some .cell
def Look(env:Env)(h:Heap)(m:Str->Option Value)(x:Str)(u:Value):Prop :=
 (env.kindOf x=some .local/\m x=some u)\/((env.kindOf x=some .cell\/env.kindOf x=some .free)/\∃ c,env.cells.lookup x=some c/\h.IsCell c (some u))
structure Cx.Ok(X:Cx):Prop where
 mod:Mod X.K X.mg X.base
 kind:X.env.scope.kind = .function
 glob:X.env.globals=mainGlobals
 blt:X.env.builtins=builtinsNs
 above:X.s₀.heap.objs.size<=X.env.locals
 inj:∀ x y c,X.env.cells.lookup x=some c->X.env.cells.lookup y=some c->x=y
 has:∀ x,(X.env.kindOf x=some .cell\/X.env.kindOf x=some .free)->∃ c,X.env.cells.lookup x=some c
 cab:∀ x c,X.fn x=true->X.env.cells.lookup x=some c->X.s₀.heap.objs.size<=c
 hd:X.calm=true->X.A.handled=none
 frames:X.A.frames=some X.stack
 gd:X.A.guards=some []
 stk:X.stack=X.outer\/(X.stack=X.env::X.outer/\X.env.frame=some X.env.locals)
 exf:∀ b∈X.ex,b≠X.env.locals/\∀ x c,X.env.cells.lookup x=some c->c≠b
 bs:∀ b o,X.base.get? b=some o->X.s₀.heap.get? b=some o/\X.H₀ b=none
 bsz:X.base.objs.size<=X.s₀.heap.objs.size
 noex:∀ b o,X.base.get? b=some o->b∉X.ex
 exfs:∀ b∈X.ex,b∉X.fs
 funs:X.s₀.heap.FunFrames X.base X.outer
 frf:∀ b∈X.fs,X.H₀ b=none
structure Inv(X:Cx)(pins:List (Addr×Obj))(σ:List (Option V))(H:Hp)(s:Shared):Prop where
 ok:X.Ok
 os:s.os=X.s₀.os
 bare:AllBare s.gens
 base:Un X.fs X.ex X.H₀ H X.s₀.heap s.heap
 loc:∃ m,s.heap.Ns X.env.locals m/\∀ (i:Nat) (x:Str) (v:V),X.N[i]? = some x->σ[i]? = some (some v)->Vis X.env.scope x->∃ u,RelV v u/\Look X.env s.heap m x u
 cell:∀ x c,X.env.cells.lookup x=some c->∃ v,s.heap.IsCell c v
 free:H X.env.locals=none
 freeC:∀ x c,X.env.cells.lookup x=some c->H c=none
 pin:∀ p∈X.pn++pins,s.heap.get? p.1=some p.2/\H p.1=none/\p.1≠X.env.locals/\p.1∉X.fs/\∀ v,p.2.data ≠ .cell v
 hok:HOk X.prog X.w H s.heap
 len:σ.length=X.N.length
section
variable {X:Cx} {pins:List (Addr×Obj)} {σ:List (Option V)} {H H':Hp} {s:Shared} {h':Heap}
theorem Cx.Ok.nofr(ok:X.Ok){b:Addr}{o:Obj}(e:X.base.get? b=some o):b∉X.fs:=fun hb=>by
 have:=(ok.funs.mem hb).1
 rw [e] at this;cases this
theorem Inv.bs(I:Inv X pins σ H s):∀ b o,X.base.get? b=some o->s.heap.get? b=some o/\H b=none:=fun b o e =>
 ⟨I.base.keep b o (I.ok.bs b o e).1 (I.ok.bs b o e).2 (I.ok.nofr e) (I.ok.noex b o e),I.base.free b o (I.ok.bs b o e).1 (I.ok.bs b o e).2 (I.ok.noex b o e)⟩
theorem Inv.bk(I:Inv X pins σ H s):∀ b o,X.base.get? b=some o->s.heap.get? b=some o:=fun b o e=>(I.bs b o e).1
theorem Inv.mod(I:Inv X pins σ H s):Mod X.K X.mg X.base:=I.ok.mod
theorem Inv.kIn(I:Inv X pins σ H s):X.K.In s.heap:=I.ok.mod.kin.keeps I.bk
theorem Inv.lt(I:Inv X pins σ H s):X.env.locals<s.heap.objs.size:=let ⟨_,hn,_⟩:=I.loc;hn.lt
theorem Inv.sz(I:Inv X pins σ H s):X.s₀.heap.objs.size<=s.heap.objs.size:=Nat.le_trans I.ok.above (Nat.le_of_lt I.lt)
theorem Inv.nofs(I:Inv X pins σ H s){a:Addr}(h:s.heap.objs.size<=a):a∉X.fs:=fun hb=>by
 obtain ⟨_,o,ho,_⟩:=I.ok.funs.mem hb
 exact absurd (Nat.lt_of_lt_of_le (Heap.lt_size ho) (Nat.le_trans I.sz h)) (Nat.lt_irrefl _)
theorem Inv.cne(I:Inv X pins σ H s):∀ x c,X.env.cells.lookup x=some c->c≠X.env.locals:=fun x c e z=>by
 obtain ⟨v,o,ho,hd⟩:=I.cell x c e
 obtain ⟨m,⟨o',es,ep,ho',hd',_⟩,_⟩:=I.loc
 rw [z,ho'] at ho;cases ho;rw [hd'] at hd;cases hd
theorem Inv.funs(I:Inv X pins σ H s):s.heap.FunFrames X.base X.outer:=by
 have all:∀ (l:List Env),(∀ b∈frs l,b∈X.fs)->X.s₀.heap.FunFrames X.base l->s.heap.FunFrames X.base l:=by
  intro l
  induction l with
  | nil=>intro _ _;trivial
  | cons env r ih =>
   intro hs hl
   obtain ⟨hk,⟨L,o,hf,hn,ho,hd⟩,hr⟩:=hl
   have hL:L∈X.fs:=hs L (by unfold frs;rw [List.filterMap_cons,hf];exact List.mem_cons_self)
   obtain ⟨sl,e⟩:=I.base.slot L o ho (I.ok.frf L hL) hL fun z=>I.ok.exfs L z hL
   exact ⟨hk,⟨L,_,hf,hn,e,hd⟩,ih (fun b hb=>hs b (by unfold frs;rw [List.filterMap_cons,hf];exact List.mem_cons_of_mem _ hb)) hr⟩
 exact all X.outer (fun _ hb=>hb) I.ok.funs
theorem Inv.stack(I:Inv X pins σ H s):s.heap.FunFrames X.base X.stack:=by
 rcases I.ok.stk with e | ⟨e,hf⟩
 ·rw [e];exact I.funs
 ·rw [e]
  obtain ⟨m,hn,_⟩:=I.loc
  refine .cons (by rw [I.ok.kind];decide) hf hn ?_ I.funs
  exact Heap.get?_none_of_le (Nat.le_trans I.ok.bsz I.ok.above)
theorem Inv.stkSub(I:Inv X pins σ H s):∀ b∈frs X.stack,b∈X.env.locals::X.fs:=fun b hb=>by
 rcases I.ok.stk with e | ⟨e,hf⟩
 ·rw [e] at hb;exact List.mem_cons_of_mem _ hb
 ·rw [e] at hb
  unfold frs at hb
  rw [List.filterMap_cons,hf] at hb
  exact hb
theorem Inv.stkFree(I:Inv X pins σ H s):∀ b∈frs X.stack,H b=none:=fun b hb=>by
 rcases List.mem_cons.mp (I.stkSub b hb) with e | hb
 ·rw [e];exact I.free
 ·obtain ⟨_,o,ho,_⟩:=I.ok.funs.mem hb
  exact I.base.free b o ho (I.ok.frf b hb) fun z=>I.ok.exfs b z hb
theorem Inv.step{g':Array GenState}{t':Nat}{d':Drawn}{ch:List Addr}(I:Inv X pins σ H s)
  (hch:∀ b∈ch,(b∈X.ex\/X.s₀.heap.objs.size<=b)/\b≠X.env.locals/\(∀ x c,X.env.cells.lookup x=some c->c≠b)/\∀ p∈X.pn++pins,p.1≠b)
  (keep:∀ b o,b≠X.env.locals->b∉X.fs->b∉ch->s.heap.get? b=some o->H b=none->h'.get? b=some o)
  (slot:∀ b o,b≠X.env.locals->b∈X.fs->b∉ch->s.heap.get? b=some o->H b=none->∃ sl,h'.get? b=some { o with slots:=sl }) (free:∀ b o,b∉ch->s.heap.get? b=some o->H b=none->H' b=none)
  (there:∀ b o,b∉ch->s.heap.get? b=some o->∃ o',h'.get? b=some o')
  (tups:∀ b xs,H b=some (.tup xs)->H' b=some (.tup xs)) (frzs:∀ b o u,H b=some (.frz o u)->H' b=some (.frz o u)) (tbls:∀ b p q,H b=some (.tbl p q)->H' b=some (.tbl p q))
  (ns:∀ m,s.heap.Ns X.env.locals m->h'.Ns X.env.locals m) (hok:HOk X.prog X.w H' h') (hg:AllBare g') :
  Inv X pins σ H' { s with heap:=h',gens:=g',drawn:=d',toks:=t' }:=by
 have neL:∀ b o,X.s₀.heap.get? b=some o->b≠X.env.locals:=fun b o e=>Nat.ne_of_lt (Nat.lt_of_lt_of_le (Heap.lt_size e) I.ok.above)
 have neC:∀ b o,X.s₀.heap.get? b=some o->b∉X.ex->b∉ch:=fun b o e hx hb=>by
  rcases (hch b hb).1 with z | z
  ·exact hx z
  ·exact absurd (Nat.lt_of_lt_of_le (Heap.lt_size e) z) (Nat.lt_irrefl _)
 have cellK:∀ x c,X.env.cells.lookup x=some c->∀ v,s.heap.IsCell c v->h'.IsCell c v:=fun x c e v ⟨o,ho,hd⟩=>by
  have nch:c∉ch:=fun z=>(hch c z).2.2.1 x c e rfl
  by_cases hc:c∈X.fs
  ·obtain ⟨sl,q⟩:=slot c o (I.cne x c e) hc nch ho (I.freeC x c e)
   exact ⟨_,q,hd⟩
  ·exact ⟨o,keep c o (I.cne x c e) hc nch ho (I.freeC x c e),hd⟩
 refine ⟨I.ok,I.os,hg,⟨fun b o e n hb hx=>?_,fun b o e n hb hx=>?_,fun b o e n hx=>?_,fun b o e hx=>?_,fun b xs e=>tups b xs (I.base.tups b xs e),fun b o xs e=>frzs b o xs (I.base.frzs b o xs e),fun b p q e=>tbls b p q (I.base.tbls b p q e)⟩,?_,fun x c e=>?_,?_,fun x c e=>?_,fun p hp=>?_,hok,I.len⟩
 ·exact keep b o (neL b o e) hb (neC b o e hx) (I.base.keep b o e n hb hx) (I.base.free b o e n hx)
 ·obtain ⟨sl,e1⟩:=I.base.slot b o e n hb hx
  obtain ⟨sl',e2⟩:=slot b _ (neL b o e) hb (neC b o e hx) e1 (I.base.free b o e n hx)
  exact ⟨sl',e2⟩
 ·obtain ⟨o',e1⟩:=I.base.there b o e hx
  exact free b o' (neC b o e hx) e1 (I.base.free b o e n hx)
 ·obtain ⟨o',e1⟩:=I.base.there b o e hx
  exact there b o' (neC b o e hx) e1
 ·obtain ⟨m,hn,hl⟩:=I.loc
  refine ⟨m,ns m hn,fun i x v e1 e2 e3=>?_⟩
  obtain ⟨u,r,l⟩:=hl i x v e1 e2 e3
  refine ⟨u,r,?_⟩
  rcases l with l | ⟨k,c,e,z⟩
  ·exact .inl l
  ·exact .inr ⟨k,c,e,cellK x c e _ z⟩
 ·obtain ⟨v,z⟩:=I.cell x c e
  exact ⟨v,cellK x c e v z⟩
 ·obtain ⟨m,⟨o,_,_,ho,_⟩,_⟩:=I.loc
  exact free _ o (fun z=>(hch _ z).2.1 rfl) ho I.free
 ·obtain ⟨v,o,ho,hd⟩:=I.cell x c e
  exact free c o (fun z=>(hch c z).2.2.1 x c e rfl) ho (I.freeC x c e)
 ·obtain ⟨e,n,ne,nf,d⟩:=I.pin p hp
  have nch:p.1∉ch:=fun z=>(hch p.1 z).2.2.2 p hp rfl
  exact ⟨keep p.1 p.2 ne nf nch e n,free p.1 p.2 nch e n,ne,nf,d⟩
theorem Inv.un{t':Nat}(I:Inv X pins σ H s)(u:Un X.fs [] H H' s.heap h')(hok:HOk X.prog X.w H' h'):Inv X pins σ H' { s with heap:=h',toks:=t' }:=by
 obtain ⟨m,⟨o,es,ep,ho,r⟩,_⟩:=id I.loc
 obtain ⟨sl,hL⟩:=u.any ho I.free (by simp)
 exact I.step (g':=s.gens) (d':=s.drawn) (ch:=[]) (fun _ z=>nomatch z) (fun b o _ hb _ e n=>u.keep b o e n hb (by simp)) (fun b o _ hb _ e n=>u.slot b o e n hb (by simp)) (fun b o _ e n=>u.free b o e n (by simp)) (fun b o _ e=>u.there b o e (by simp)) u.tups u.frzs u.tbls (fun m' hm=>by
  obtain ⟨o',es',ep',ho',r'⟩:=hm
  rw [ho] at ho';cases ho'
  exact ⟨_,es',ep',hL,r'⟩) hok I.bare
theorem Inv.call{g':Array GenState}{t':Nat}{d':Drawn}{ch:List Addr}(I:Inv X pins σ H s)(u:Un (frs X.stack) ch H H' s.heap h')(hok:HOk X.prog X.w H' h')(hg:AllBare g')
  (hch:∀ b∈ch,(b∈X.ex\/X.s₀.heap.objs.size<=b)/\b≠X.env.locals/\(∀ x c,X.env.cells.lookup x=some c->c≠b)/\∀ p∈X.pn++pins,p.1≠b) :
  Inv X pins σ H' { s with heap:=h',gens:=g',drawn:=d',toks:=t' }:=by
 obtain ⟨m,⟨o,es,ep,ho,r⟩,_⟩:=id I.loc
 obtain ⟨sl,hL⟩:=u.any ho I.free fun z=>(hch _ z).2.1 rfl
 exact I.step (ch:=ch) hch (fun b o hL hb hc e n=>u.keep b o e n (fun z=>(List.mem_cons.mp (I.stkSub b z)).elim hL hb) hc) (fun b o _ _ hc e n=>u.any e n hc) (fun b o hc e n=>u.free b o e n hc) (fun b o hc e=>u.there b o e hc) u.tups u.frzs u.tbls (fun m' hm=>by
  obtain ⟨o',es',ep',ho',r'⟩:=hm
  rw [ho] at ho';cases ho'
  exact ⟨_,es',ep',hL,r'⟩) hok hg
theorem Inv.turned{t':Nat}{it:Addr}(I:Inv X pins σ H s)(k:∀ b o,b≠it->s.heap.get? b=some o->h'.get? b=some o)(hn:H it=none)(hL:it≠X.env.locals)
  (h1:it∈X.ex\/X.s₀.heap.objs.size<=it) (h2:∀ x c,X.env.cells.lookup x=some c->c≠it) (h3:∀ p∈X.pn++pins,p.1≠it):Inv X pins σ H { s with heap:=h',toks:=t' }:=by
 have nit:∀ b u,H b=some u->b≠it:=fun b u e z=>by rw [z,hn] at e;cases e
 refine I.step (g':=s.gens) (d':=s.drawn) (ch:=[it]) (fun b hb=>?_) (fun b o _ _ hc e _=>k b o (fun z=>hc (by simp [z])) e) (fun b o _ _ hc e _=>⟨o.slots,k b o (fun z=>hc (by simp [z])) e⟩) (fun _ _ _ _ n=>n)
  (fun b o hc e=>⟨o,k b o (fun z=>hc (by simp [z])) e⟩) (fun _ _ e=>e) (fun _ _ _ e=>e) (fun _ _ _ e=>e) (fun m hm=>?_) (fun b u e=>?_) I.bare
 ·have e:b=it:=by simpa using hb
  subst e
  exact ⟨h1,hL,h2,h3⟩
 ·obtain ⟨o,es,ep,ho,r⟩:=hm
  exact ⟨o,es,ep,k _ o (Ne.symm hL) ho,r⟩
 ·refine (I.hok b u e).stay (fun c v hc q=>k c v ?_ q) (fun _ q=>q) (fun _ _ q=>q) fun _ _ _ q=>q
  rcases hc with z | z
  ·rw [z];exact nit b u e
  ·exact nit c _ z
theorem Inv.tok(I:Inv X pins σ H s)(t:Nat):Inv X pins σ H { s with toks:=t }:=I.un (h':=s.heap) (t':=t) Un.refl I.hok
theorem Inv.kept{t':Nat}(I:Inv X pins σ H s)(k:∀ b u,s.heap.get? b=some u->h'.get? b=some u):Inv X pins σ H { s with heap:=h',toks:=t' }:=I.un (Un.kept k) (I.hok.kept k)
theorem Inv.laid{a:Addr}{o:HO}{t':Nat}(I:Inv X pins σ H s)(k:∀ b u,s.heap.get? b=some u->h'.get? b=some u)(hp:s.heap.objs.size<=a)(new:ObjOk X.prog X.w (upd H a o) h' a o) :
  Inv X pins σ (upd H a o) { s with heap:=h',toks:=t' }:=I.un (Un.laid k hp (I.hok.fresh hp)) (I.hok.laid k hp new)
theorem Inv.write{x e:Addr}{o:HO}{t':Nat}(I:Inv X pins σ H s)(mu:Mut (H x))(he:e=x\/H e=some (.own x))(k:∀ b u,b≠e->s.heap.get? b=some u->h'.get? b=some u)(heo:∃ u,h'.get? e=some u)
  (new:ObjOk X.prog X.w (upd H x o) h' x o):Inv X pins σ (upd H x o) { s with heap:=h',toks:=t' }:=I.un (Un.write mu he k heo) (I.hok.write mu he k heo new)
theorem Inv.pins_of{pins':List (Addr×Obj)}(I:Inv X pins σ H s)(h:∀ p∈pins',s.heap.get? p.1=some p.2/\H p.1=none/\p.1≠X.env.locals/\p.1∉X.fs/\∀ v,p.2.data ≠ .cell v):Inv X pins' σ H s :=
 ⟨I.ok,I.os,I.bare,I.base,I.loc,I.cell,I.free,I.freeC,fun p hp=>(List.mem_append.mp hp).elim (fun z=>I.pin p (List.mem_append_left _ z)) (h p),I.hok,I.len⟩
theorem k_e{N:List Str}(hN:N.Nodup){i j:Nat}{x:Str}(a:N[i]? = some x)(b:N[j]? = some x):i=j:=by
 obtain ⟨h1,e1⟩:=List.getElem?_eq_some_iff.mp a
 obtain ⟨h2,e2⟩:=List.getElem?_eq_some_iff.mp b
 exact (List.getElem_inj hN).mp (e1.trans e2.symm)
theorem f_m{M:Model}{A:Around}{E:Value->Shared->Prop}{i:Nat}{x:Str}{v:V}{u:Value}{Q:Unit->Shared->Prop}(I:Inv X pins σ H s)(hN:X.N.Nodup)(hi:X.N[i]? = some x)(hx:Loc X.env.scope x)(r:RelV v u)
  (h:∀ s',Inv X pins (σ.set i (some v)) H s'->(∃ a,Heap.SameBut a s.heap s'.heap/\(a=X.env.locals\/X.env.cells.lookup x=some a))->Q () s') (hf:X.fn x=true\/X.env.scope.names.lookup x=some .local:=by first | exact .inl rfl | exact .inr rfl | assumption):wpAny M A (storeName X.env x u) Q E s:=by
 obtain ⟨m,hn,hl⟩:=id I.loc
 have hcls:(X.env.scope.kind == .class || (X.env.scope.kind == .module&&X.env.locals != X.env.globals))=false:=by rw [I.ok.kind];rfl
 have hiσ:i<σ.length:=by rw [I.len];exact (List.getElem?_eq_some_iff.mp hi).1
 have cne:=I.cne
 have tracked:∀ {a:Addr} {h':Heap},(∃ o,s.heap.get? a=some o/\H a=none)->Heap.SameBut a s.heap h'->HOk X.prog X.w H h':=fun {a h'} ha hs b ob e=>by
  obtain ⟨_,_,hfree⟩:=ha
  refine (I.hok b ob e).stay (fun c w' hc q=>(hs.2 c ?_).trans q) (fun _ q=>q) (fun _ _ q=>q) fun _ _ _ q=>q
  rintro rfl
  rcases hc with rfl | hc
  ·rw [hfree] at e;cases e
  ·rw [hfree] at hc;cases hc
 rcases hx with hk | hk
 ·refine wpAny_storeName_local hk hn (fun h' hn' hs=>?_) hcls
  obtain ⟨oL,_,_,hoL,_⟩:=id hn
  refine h _ ⟨I.ok,I.os,I.bare,⟨fun b o e n hb hx=>?_,fun b o e n hb hx=>?_,I.base.free,fun b o e hx=>?_,I.base.tups,I.base.frzs,I.base.tbls⟩,⟨_,hn',fun j y v' e1 e2 e3=>?_⟩,fun y c e=>?_,I.free,I.freeC,fun p hp=>?_,tracked ⟨oL,hoL,I.free⟩ hs,by simpa using I.len⟩ ⟨_,hs,.inl rfl⟩
  ·exact (hs.2 b (Nat.ne_of_lt (Nat.lt_of_lt_of_le (Heap.lt_size e) I.ok.above))).trans (I.base.keep b o e n hb hx)
  ·obtain ⟨sl,e1⟩:=I.base.slot b o e n hb hx
   exact ⟨sl,(hs.2 b (Nat.ne_of_lt (Nat.lt_of_lt_of_le (Heap.lt_size e) I.ok.above))).trans e1⟩
  ·obtain ⟨o',e1⟩:=I.base.there b o e hx
   exact ⟨o',(hs.2 b (Nat.ne_of_lt (Nat.lt_of_lt_of_le (Heap.lt_size e) I.ok.above))).trans e1⟩
  ·by_cases hj:j=i
   ·subst hj
    rw [hi] at e1;cases e1
    rw [List.getElem?_set_self hiσ] at e2
    cases e2
    exact ⟨u,r,.inl ⟨hk,by simp⟩⟩
   ·rw [List.getElem?_set_ne (Ne.symm hj)] at e2
    obtain ⟨u',r',q⟩:=hl j y v' e1 e2 e3
    refine ⟨u',r',?_⟩
    rcases q with ⟨k,e⟩ | ⟨k,c,e,z⟩
    ·refine .inl ⟨k,?_⟩
     have:y≠x:=fun e=>hj (k_e hN e1 (e▸hi))
     simp [this,e]
    ·exact .inr ⟨k,c,e,z.sameBut hs (cne y c e)⟩
  ·obtain ⟨w',z⟩:=I.cell y c e
   exact ⟨w',z.sameBut hs (cne y c e)⟩
  ·obtain ⟨e,n,ne,nf,d⟩:=I.pin p hp
   exact ⟨(hs.2 p.1 ne).trans e,n,ne,nf,d⟩
 ·have hfn:X.fn x=true:=by
   rcases hf with z | z
   ·exact z
   ·rw [z] at hk;cases hk
  obtain ⟨c,hc⟩:=I.ok.has x (.inl hk)
  obtain ⟨w',z⟩:=I.cell x c hc
  refine wpAny_storeName_cell I.ok.kind hk hc z (fun h' hc' hs=>?_)
  obtain ⟨oc,hoc,hocd⟩:=id z
  refine h { s with heap:=h' } ⟨I.ok,I.os,I.bare,⟨fun b o e n hb hx=>?_,fun b o e n hb hx=>?_,I.base.free,fun b o e hx=>?_,I.base.tups,I.base.frzs,I.base.tbls⟩,⟨m,hn.sameBut hs (Ne.symm (cne x c hc)),fun j y v' e1 e2 e3=>?_⟩,fun y c' e=>?_,I.free,I.freeC,fun p hp=>?_,tracked ⟨oc,hoc,I.freeC x c hc⟩ hs,by simpa using I.len⟩ ⟨c,hs,.inr hc⟩
  ·exact (hs.2 b (Nat.ne_of_lt (Nat.lt_of_lt_of_le (Heap.lt_size e) (I.ok.cab x c hfn hc)))).trans (I.base.keep b o e n hb hx)
  ·obtain ⟨sl,e1⟩:=I.base.slot b o e n hb hx
   exact ⟨sl,(hs.2 b (Nat.ne_of_lt (Nat.lt_of_lt_of_le (Heap.lt_size e) (I.ok.cab x c hfn hc)))).trans e1⟩
  ·obtain ⟨o',e1⟩:=I.base.there b o e hx
   exact ⟨o',(hs.2 b (Nat.ne_of_lt (Nat.lt_of_lt_of_le (Heap.lt_size e) (I.ok.cab x c hfn hc)))).trans e1⟩
  ·by_cases hj:j=i
   ·subst hj
    rw [hi] at e1;cases e1
    rw [List.getElem?_set_self hiσ] at e2
    cases e2
    exact ⟨u,r,.inr ⟨.inl hk,c,hc,hc'⟩⟩
   ·rw [List.getElem?_set_ne (Ne.symm hj)] at e2
    obtain ⟨u',r',q⟩:=hl j y v' e1 e2 e3
    refine ⟨u',r',?_⟩
    rcases q with q | ⟨k,c',e,z'⟩
    ·exact .inl q
    ·refine .inr ⟨k,c',e,z'.sameBut hs ?_⟩
     rintro rfl
     exact hj (k_e hN e1 (I.ok.inj _ _ _ e hc▸hi))
  ·by_cases hcc:c'=c
   ·subst hcc;exact ⟨_,hc'⟩
   ·obtain ⟨w2,z2⟩:=I.cell y c' e
    exact ⟨w2,z2.sameBut hs hcc⟩
  ·obtain ⟨e,n,ne,nf,d⟩:=I.pin p hp
   refine ⟨(hs.2 p.1 ?_).trans e,n,ne,nf,d⟩
   intro q
   rw [q,hoc] at e
   have q':oc=p.2:=Option.some.inj e
   exact d w' (by rw [<-q'];exact hocd)
theorem p_u{M:Model}{A:Around}{E:Value->Shared->Prop}{i:Nat}{x:Str}{v:V}{u:Value}{Q:Unit->Shared->Prop}(I:Inv X pins σ H s)(hN:X.N.Nodup)(hi:X.N[i]? = some x)(hx:Loc X.env.scope x)(r:RelV v u)
  (h:∀ s',Inv X pins (σ.set i (some v)) H s'->Q () s') (hf:X.fn x=true\/X.env.scope.names.lookup x=some .local:=by first | exact .inl rfl | exact .inr rfl | assumption):wpAny M A (storeName X.env x u) Q E s :=
 f_m I hN hi hx r (fun s' I' _=>h s' I') hf
theorem Inv.call'{s':Shared}{ch:List Addr}(I:Inv X pins σ H s)(ho:s'.os=s.os)(u:Un (frs X.stack) ch H H' s.heap s'.heap)(hok:HOk X.prog X.w H' s'.heap)(hg:AllBare s'.gens)
  (hch:∀ b∈ch,(b∈X.ex\/X.s₀.heap.objs.size<=b)/\b≠X.env.locals/\(∀ x c,X.env.cells.lookup x=some c->c≠b)/\∀ p∈X.pn++pins,p.1≠b):Inv X pins σ H' s':=by
 obtain ⟨h',g',d',t',o'⟩:=s'
 have e:o'=s.os:=ho
 subst e
 exact I.call (g':=g') (t':=t') (d':=d') u hok hg hch
end
abbrev XK:=Value->Option Addr->Hp->Prop
abbrev St:=List (Option V)
abbrev VK:=V->Hp->Prop
abbrev TE:=St->Hp->VK->Prop
abbrev TT:=St->Hp->(Bool->Hp->Prop)->Prop
abbrev TA:=St->Hp->(List V->Hp->Prop)->Prop
structure Ends where
 nx:St->Hp->Prop
 rt:VK
 bk:St->Hp->Prop:=fun _ _=>False
 ct:St->Hp->Prop:=fun _ _=>False
abbrev TS:=Ends->St->Hp->Prop
def EP(X:Cx)(pins:List (Addr×Obj))(σ:St)(Q:VK)(u:Value)(s':Shared):Prop:=∃ v H',Inv X pins σ H' s'/\RelV v u/\Q v H'
def TP(X:Cx)(pins:List (Addr×Obj))(σ:St)(Q:Bool->Hp->Prop)(b:Bool)(s':Shared):Prop:=∃ H',Inv X pins σ H' s'/\Q b H'
def AP(X:Cx)(pins:List (Addr×Obj))(σ:St)(Q:List V->Hp->Prop)(us:List Value)(s':Shared):Prop:=∃ vs H',Inv X pins σ H' s'/\Vals vs us/\Q vs H'
def SP(X:Cx)(pins:List (Addr×Obj))(D:Ends)(f:Flow)(s':Shared):Prop :=
 match f with
 | .next=>∃ σ' H',Inv X pins σ' H' s'/\D.nx σ' H'
 | .brk=>∃ σ' H',Inv X pins σ' H' s'/\D.bk σ' H'
 | .cont=>∃ σ' H',Inv X pins σ' H' s'/\D.ct σ' H'
 | .ret u=>∃ v σ' H',Inv X pins σ' H' s'/\RelV v u/\D.rt v H'
def PE(X:Cx)(e:Expr)(t:TE):Prop :=
 ∀ (pins:List (Addr×Obj)) (s:Shared) (σ:St) (H:Hp) (Q:VK),Inv X pins σ H s->t σ H Q->wpAny (model X.prog X.w) X.A (eval e X.env) (EP X pins σ Q) X.xe s
def PT(X:Cx)(e:Expr)(t:TT):Prop :=
 ∀ (pins:List (Addr×Obj)) (s:Shared) (σ:St) (H:Hp) (Q:Bool->Hp->Prop),Inv X pins σ H s->t σ H Q->wpAny (model X.prog X.w) X.A (isTrue e X.env (eval e X.env)) (TP X pins σ Q) X.xe s
def PW(X:Cx)(e:Expr)(t:TT):Prop :=
 ∀ (whole:Sem Value) (pins:List (Addr×Obj)) (s:Shared) (σ:St) (H:Hp) (Q:Bool->Hp->Prop),Inv X pins σ H s->t σ H Q->wpAny (model X.prog X.w) X.A (isTrue e X.env whole) (TP X pins σ Q) X.xe s
theorem PW.pt{X:Cx}{e:Expr}{t:TT}(h:PW X e t):PT X e t:=h _
def PA(X:Cx)(es:List Expr)(t:TA):Prop :=
 ∀ (pos:Pos) (pins:List (Addr×Obj)) (s:Shared) (σ:St) (H:Hp) (Q:List V->Hp->Prop),Inv X pins σ H s->t σ H Q->wpAny (model X.prog X.w) X.A (spliced (backTo pos (starEach es X.env))) (AP X pins σ Q) X.xe s
def PS(X:Cx)(st:Stmt)(t:TS):Prop :=
 ∀ (pins:List (Addr×Obj)) (s:Shared) (σ:St) (H:Hp) (D:Ends),Inv X pins σ H s->t D σ H->wpAny (model X.prog X.w) X.A (exec st X.env) (SP X pins D) X.xe s
def PSs(X:Cx)(st:List Stmt)(t:TS):Prop :=
 ∀ (pins:List (Addr×Obj)) (s:Shared) (σ:St) (H:Hp) (D:Ends),Inv X pins σ H s->t D σ H->wpAny (model X.prog X.w) X.A (execs st X.env) (SP X pins D) X.xe s
theorem thn{α:Type}{t:Sem α}{Q Q':α->Shared->Prop}{M:Model}{A:Around}{E:Value->Shared->Prop}{s:Shared}(h:wpAny M A t Q E s)(hQ:∀ a s,Q a s->Q' a s):wpAny M A t Q' E s:=wpAny_mono h hQ fun _ _ x=>x
open PySem PySem.Spec PyProof.Rows
section
variable {X:Cx}
def tVar(i:Nat):TE:=fun σ H Q=>∃ v,σ[i]? = some (some v)/\Q v H
def tC(v:V):TE:=fun _ H Q=>Q v H
theorem pe_var{i:Nat}{x:Str}{pos:Pos}(hN:X.N[i]? = some x)(hv:Vis X.env.scope x)(hd:(x == ("__debug__" : Str))=false:=by decide)(hcd:(x == ("__classdict__" : Str))=false:=by decide):PE X (.Name x pos) (tVar i):=by
 intro pins s σ H Q I h
 obtain ⟨v,e,h⟩:=h
 obtain ⟨m,hn,hl⟩:=I.loc
 obtain ⟨u,r,l⟩:=hl i x v hN e hv
 have fin:EP X pins σ Q u s:=⟨v,H,I,r,h⟩
 rcases l with ⟨hk,hm⟩ | ⟨hk,c,hc,hcell⟩
 ·exact wpAny_Name (wpAny_loadName_local I.ok.kind hk hn hm fin) hd
 ·rcases hk with hk | hk
  ·exact wpAny_Name (wpAny_loadName_cell I.ok.kind hk hc hcell fin) hd
  ·exact wpAny_Name (wpAny_loadName_free I.ok.kind hk hc hcell fin hcd) hd
theorem z_c{i j pos}:PE X (.Constant (.int i) j pos) (tC (.int i)):=fun _ _ _ H _ I h=>wpAny_Constant_int ⟨.int i,H,I.tok _,⟨_,rfl⟩,h⟩
theorem s_m{b j pos}:PE X (.Constant (.bool b) j pos) (tC (.bl b)):=fun _ _ _ H _ I h=>Constant_bool ⟨.bl b,H,I,rfl,h⟩
theorem u_l{j pos}:PE X (.Constant .none j pos) (tC .non):=fun _ _ _ H _ I h=>Constant_none ⟨.non,H,I,rfl,h⟩
theorem n_i{x j pos}:PE X (.Constant (.str x) j pos) (tC (.str x)):=fun _ _ _ H _ I h=>Calls.Constant_str ⟨.str x,H,I.tok _,⟨_,rfl⟩,h⟩
def Gl(X:Cx)(x:Str):Prop:=X.env.kindOf x=some .globalImplicit
theorem r_f{E:Value->Shared->Prop}{pins:List (Addr×Obj)}{s:Shared}{σ:St}{H:Hp}{x:Str}{u:Value}{pos:Pos}{Q:Value->Shared->Prop}(I:Inv X pins σ H s)(hg:Gl X x)(hm:X.mg x=some u)(h:Q u s)
  (hd:(x == ("__debug__" : Str))=false:=by decide):wpAny (model X.prog X.w) X.A (eval (.Name x pos) X.env) Q E s :=
 Calls.Name_function_global I.ok.kind hg (Calls.loadGlobal_global (by rw [I.ok.glob];exact I.mod.glob.keeps I.bk) hm h) hd
theorem t_f{E:Value->Shared->Prop}{pins:List (Addr×Obj)}{s:Shared}{σ:St}{H:Hp}{x:Str}{u:Value}{pos:Pos}{Q:Value->Shared->Prop}(I:Inv X pins σ H s)(hg:Gl X x)(hm:X.mg x=none)(hv:bootBuiltins x=some u)(h:Q u s)
  (hn:x ≠ "__name__" := by decide) (hd:(x == ("__debug__" : Str))=false:=by decide):wpAny (model X.prog X.w) X.A (eval (.Name x pos) X.env) Q E s:=by
 obtain ⟨mb,h1,h2⟩:=I.mod.blt
 exact Calls.Name_function_global I.ok.kind hg (Calls.loadGlobal_builtin (by rw [I.ok.glob];exact I.mod.glob.keeps I.bk) hm (by rw [I.ok.blt];exact h1.keeps I.bk) ((h2 x hn).trans hv) h) hd
theorem g_m{x:Str}{v:V}{u:Value}{pos:Pos}(hg:Gl X x)(hm:X.mg x=some u)(r:RelV v u)(hd:(x == ("__debug__" : Str))=false:=by decide):PE X (.Name x pos) (tC v) :=
 fun _ _ _ H _ I h=>r_f I hg hm ⟨v,H,I,r,h⟩ hd
theorem u_c{x:Str}{v:V}{u:Value}{pos:Pos}(hg:Gl X x)(hm:X.mg x=none)(hv:bootBuiltins x=some u)(r:RelV v u)(hn:x ≠ "__name__" := by decide)(hd:(x == ("__debug__" : Str))=false:=by decide):PE X (.Name x pos) (tC v) :=
 fun _ _ _ H _ I h=>t_f I hg hm hv ⟨v,H,I,r,h⟩ hn hd
variable {a b:Expr} {ta tb:TE} {pos:Pos}
def PC(X:Cx)(op:CmpOp)(a b:Expr)(t:TE):Prop :=
 ∀ (pins:List (Addr×Obj)) (s:Shared) (σ:St) (H:Hp) (Q:VK),Inv X pins σ H s->t σ H Q ->
  wpAny (model X.prog X.w) X.A (eval a X.env) (fun v s₁=>wpAny (model X.prog X.w) X.A (eval b X.env) (fun u s₂=>wpAny (model X.prog X.w) X.A (compareOp op v u) (EP X pins σ Q) X.xe s₂) X.xe s₁) X.xe s
theorem nobehind(b:Expr){op:CmpOp}(h:op ≠ .In)(h2:op ≠ .NotIn):behindInMarks op b=false:=by
 have e1:(op == CmpOp.In)=false:=by cases op<;>first | rfl | exact absurd rfl h
 have e2:(op == CmpOp.NotIn)=false:=by cases op<;>first | rfl | exact absurd rfl h2
 cases b<;>simp [behindInMarks,e1,e2]
def tB(t:TE):TT:=fun σ H Q=>t σ H fun x H1=>∃ c,x = .bl c/\Q c H1
theorem pt_cmp{op:CmpOp}{t:TE}(h:PC X op a b t)(h1:behindInMarks op b=false:=by first | exact nobehind _ (by decide) (by decide) | rfl):PT X (.Compare a [op] [b] pos) (tB t):=by
 intro pins s σ H Q I hw
 refine wpAny_isTrue_Compare1 (thn (h pins s σ H _ I hw) fun v s1 h1=>thn h1 fun u s2 h2=>thn h2 fun c s3 ⟨x,H1,I1,r1,q1⟩=>?_) h1
 obtain ⟨d,rfl,q⟩:=q1
 cases r1
 exact wpAny_truthy_bool ⟨H1,I1,q⟩
variable {tA tB':TT} {rest:List Expr}
def tAnd(t u:TT):TT:=fun σ H Q=>t σ H fun c H1=>if c=true then u σ H1 Q else Q false H1
def tOr(t u:TT):TT:=fun σ H Q=>t σ H fun c H1=>if c=true then Q true H1 else u σ H1 Q
def tNot(t:TT):TT:=fun σ H Q=>t σ H fun c H1=>Q (!c) H1
theorem g_v(ha:PT X a tA):PW X (.BoolOp .And [a] pos) tA:=by
 intro wh pins s σ H Q I h
 refine isTrue_and (thn (ha pins s σ H Q I h) fun c s1 e=>?_)
 cases c with
 | true=>exact isTrue_and_nil e
 | false=>exact e
theorem s_f(ha:PT X a tA):PW X (.BoolOp .Or [a] pos) tA:=by
 intro wh pins s σ H Q I h
 refine isTrue_or (thn (ha pins s σ H Q I h) fun c s1 e=>?_)
 cases c with
 | false=>exact isTrue_or_nil e
 | true=>exact e
theorem pw_and(ha:PT X a tA)(hb:PW X (.BoolOp .And (b::rest) pos) tB'):PW X (.BoolOp .And (a::b::rest) pos) (tAnd tA tB'):=by
 intro wh pins s σ H Q I h
 refine isTrue_and (thn (ha pins s σ H _ I h) fun c s1 ⟨H1,I1,q1⟩=>?_)
 cases c with
 | true=>exact hb wh pins s1 σ H1 Q I1 q1
 | false=>exact ⟨H1,I1,q1⟩
theorem r_p(ha:PT X a tA)(hb:PW X (.BoolOp .Or (b::rest) pos) tB'):PW X (.BoolOp .Or (a::b::rest) pos) (tOr tA tB'):=by
 intro wh pins s σ H Q I h
 refine isTrue_or (thn (ha pins s σ H _ I h) fun c s1 ⟨H1,I1,q1⟩=>?_)
 cases c with
 | true=>exact ⟨H1,I1,q1⟩
 | false=>exact hb wh pins s1 σ H1 Q I1 q1
theorem v_g(ha:PT X a tA):PT X (.UnaryOp .Not a pos) (tNot tA):=by
 intro pins s σ H Q I h
 exact isTrue_not (ha pins s σ H (fun c H1=>Q (!c) H1) I h)
def tAndV(ta tb:TE):TE:=fun σ H Q=>ta σ H fun x H1=>∃ c,x = .bl c/\if c=true then tb σ H1 Q else Q (.bl false) H1
def tNotV(ta:TE):TE:=fun σ H Q=>ta σ H fun x H1=>∃ c,x = .bl c/\Q (.bl (!c)) H1
theorem n_h{op}{t:TE}(h:PE X a t):PE X (.BoolOp op [a] pos) t:=fun pins s σ H Q I hw=>BoolOp_one (h pins s σ H Q I hw)
theorem r_o(ha:PE X a ta)(hb:PE X (.BoolOp .And (b::rest) pos) tb):PE X (.BoolOp .And (a::b::rest) pos) (tAndV ta tb):=by
 intro pins s σ H Q I h
 refine BoolOp_and (thn (ha pins s σ H _ I h) fun v s1 ⟨x,H1,I1,r1,q1⟩=>?_)
 obtain ⟨c,rfl,q1⟩:=q1
 cases r1
 refine wpAny_truthy_bool ?_
 cases c with
 | true=>exact hb pins s1 σ H1 Q I1 q1
 | false=>exact ⟨.bl false,H1,I1,rfl,q1⟩
theorem pe_not(ha:PE X a ta):PE X (.UnaryOp .Not a pos) (tNotV ta):=by
 intro pins s σ H Q I h
 refine UnaryOp_ (thn (ha pins s σ H _ I h) fun v s1 ⟨x,H1,I1,r1,q1⟩=>?_)
 obtain ⟨c,rfl,q1⟩:=q1
 cases r1
 exact not_of (wpAny_truthy_bool ⟨.bl (!c),H1,I1,rfl,q1⟩)
def tIf(t:TT)(ta tb:TE):TE:=fun σ H Q=>t σ H fun c H1=>if c=true then ta σ H1 Q else tb σ H1 Q
theorem s_r{c:Expr}(hc:PT X c tA)(ha:PE X a ta)(hb:PE X b tb):PE X (.IfExp c a b pos) (tIf tA ta tb):=by
 intro pins s σ H Q I h
 refine wpAny_IfExp (thn (hc pins s σ H _ I h) fun d s1 ⟨H1,I1,q1⟩=>?_)
 cases d with
 | true=>exact ha pins s1 σ H1 Q I1 q1
 | false=>exact hb pins s1 σ H1 Q I1 q1
end
open PySem PySem.Spec PyProof.Rows
def SqL(K:PySem.W.Frag)(H:Hp)(a:Addr)(xs:List V):Prop :=
 Rd H a (.lst xs) \/
  ∃ (o:Obj) (its:Array Value) (n:Nat),K.lookup a=some o/\o.cls = .type "list" /\ o.dict=none/\o.data = .seq its n/\its.size<=sizeLine/\Vals xs its.toList
def SqT(K:PySem.W.Frag)(H:Hp)(a:Addr)(xs:List V):Prop :=
 Rd H a (.tup xs) \/
  ∃ (o:Obj) (its:Array Value) (n:Nat),K.lookup a=some o/\o.cls = .type "tuple" /\ o.data = .seq its n/\its.size<=sizeLine/\Vals xs its.toList
def absV:Value->Option V
 | .none=>some .non
 | .bool b=>some (.bl b)
 | .int i _=>some (.int i)
 | .str x _=>some (.str x)
 | .bytes b _=>some (.byt b)
 | .float b _=>some (.flt b)
 | .ref a=>some (.ref a)
 | .type n=>some (.ty n)
 | _=>none
theorem RelV.abs{x:V}{u:Value}(r:RelV x u):absV u=some x:=by
 cases x with
 | non=>cases r;rfl
 | bl _=>cases r;rfl
 | int _=>obtain ⟨t,rfl⟩:=r;rfl
 | str _=>obtain ⟨t,rfl⟩:=r;rfl
 | byt _=>obtain ⟨t,rfl⟩:=r;rfl
 | flt _=>obtain ⟨t,rfl⟩:=r;rfl
 | ref _=>cases r;rfl
 | ty _=>cases r;rfl
theorem RelV.inj{x y:V}{u:Value}(r:RelV x u)(q:RelV y u):x=y:=Option.some.inj (r.abs.symm.trans q.abs)
theorem Vals.inj:∀ {xs ys:List V} {us:List Value},Vals xs us->Vals ys us->xs=ys
 | _,_,_,.nil,.nil=>rfl
 | _,_,_,.cons r t,.cons r' t'=>by rw [r.inj r',Vals.inj t t']
section
variable {X:Cx} {pins:List (Addr×Obj)} {σ:St} {H:Hp} {s:Shared} {a:Addr} {xs ys:List V}
theorem SqL.of{K:PySem.W.Frag}(h:H a=some (.lst xs)):SqL K H a xs:=.inl (.inl h)
theorem SqT.of{K:PySem.W.Frag}(h:H a=some (.tup xs)):SqT K H a xs:=.inl (.inl h)
theorem Inv.list(I:Inv X pins σ H s)(h:SqL X.K H a xs):∃ its:List Value,Vals xs its/\PlainL s.heap a its.toArray/\xs.length<=sizeLine:=by
 rcases h with h | ⟨o,its,n,hk,hc,hd,hs,hz,r⟩
 ·obtain ⟨z,its,n,r,e⟩:=h.ok I.hok
  exact ⟨its,r,⟨_,n,e,rfl,rfl,rfl⟩,z⟩
 ·refine ⟨its.toList,r,⟨o,n,I.kIn a o hk,hc,hd,by simpa using hs⟩,?_⟩
  have e:=r.length
  simp only [Array.length_toList] at e
  lia
theorem Inv.tuple(I:Inv X pins σ H s)(h:SqT X.K H a xs):∃ its:List Value,Vals xs its/\IsTup s.heap a its.toArray/\xs.length<=sizeLine:=by
 rcases h with h | ⟨o,its,n,hk,hc,hs,hz,r⟩
 ·obtain ⟨z,its,r,p⟩:=h.ok I.hok
  exact ⟨its,r,p,z⟩
 ·refine ⟨its.toList,r,⟨o,I.kIn a o hk,hc,n,by simpa using hs⟩,?_⟩
  have e:=r.length
  simp only [Array.length_toList] at e
  lia
theorem Inv.list_inj(I:Inv X pins σ H s)(h:SqL X.K H a xs)(h':SqL X.K H a ys):xs=ys:=by
 obtain ⟨its,r,⟨o,n,e,_,_,d⟩,_⟩:=I.list h
 obtain ⟨its',r',⟨o',n',e',_,_,d'⟩,_⟩:=I.list h'
 rw [e] at e';cases e'
 rw [d] at d'
 injection d' with d1 _
 have:its=its':=by simpa using congrArg Array.toList d1
 subst this
 exact r.inj r'
theorem Inv.tuple_inj(I:Inv X pins σ H s)(h:SqT X.K H a xs)(h':SqT X.K H a ys):xs=ys:=by
 obtain ⟨its,r,⟨o,e,_,n,d⟩,_⟩:=I.tuple h
 obtain ⟨its',r',⟨o',e',_,n',d'⟩,_⟩:=I.tuple h'
 rw [e] at e';cases e'
 rw [d] at d'
 injection d' with d1 _
 have:its=its':=by simpa using congrArg Array.toList d1
 subst this
 exact r.inj r'
end
abbrev Cx.wish(X:Cx)(E:Value->Shared->Prop):Cx:={ X with xe:=E }
abbrev Cx.nox(X:Cx):Cx:=X.wish fun _ _=>False
theorem Cx.Ok.wish{X:Cx}(ok:X.Ok)(E:Value->Shared->Prop):(X.wish E).Ok :=
 ⟨ok.mod,ok.kind,ok.glob,ok.blt,ok.above,ok.inj,ok.has,ok.cab,ok.hd,ok.frames,ok.gd,ok.stk,ok.exf,ok.bs,ok.bsz,ok.noex,ok.exfs,ok.funs,ok.frf⟩
theorem Cx.Ok.unwish{X:Cx}{E:Value->Shared->Prop}(ok:(X.wish E).Ok):X.Ok :=
 ⟨ok.mod,ok.kind,ok.glob,ok.blt,ok.above,ok.inj,ok.has,ok.cab,ok.hd,ok.frames,ok.gd,ok.stk,ok.exf,ok.bs,ok.bsz,ok.noex,ok.exfs,ok.funs,ok.frf⟩
section
variable {X:Cx} {pins:List (Addr×Obj)} {σ:St} {H:Hp} {s:Shared} {E:Value->Shared->Prop}
theorem Inv.wish(I:Inv X pins σ H s)(E:Value->Shared->Prop):Inv (X.wish E) pins σ H s:=⟨I.ok.wish E,I.os,I.bare,I.base,I.loc,I.cell,I.free,I.freeC,I.pin,I.hok,I.len⟩
theorem Inv.unwish(I:Inv (X.wish E) pins σ H s):Inv X pins σ H s:=⟨I.ok.unwish,I.os,I.bare,I.base,I.loc,I.cell,I.free,I.freeC,I.pin,I.hok,I.len⟩
theorem SP.unwish{D:Ends}{f:Flow}{s':Shared}(h:SP (X.wish E) pins D f s'):SP X pins D f s':=by
 cases f with
 | next=>obtain ⟨σ',H',I,q⟩:=h;exact ⟨σ',H',I.unwish,q⟩
 | brk=>obtain ⟨σ',H',I,q⟩:=h;exact ⟨σ',H',I.unwish,q⟩
 | cont=>obtain ⟨σ',H',I,q⟩:=h;exact ⟨σ',H',I.unwish,q⟩
 | ret u=>obtain ⟨v,σ',H',I,r,q⟩:=h;exact ⟨v,σ',H',I.unwish,r,q⟩
theorem PSs.nox{st:List Stmt}{t:TS}(h:PSs X.nox st t):PSs X st t:=fun pins s σ H D I hw =>
 wpAny_mono (h pins s σ H D (I.wish _) hw) (fun _ _ q=>q.unwish) fun _ _ z=>False.elim z
end
section
variable {X:Cx} {st:Stmt} {rest:List Stmt} {t u:TS} {e:Expr} {te:TE} {pos:Pos}
def tNext:TS:=fun D σ H=>D.nx σ H
def tSeq(t u:TS):TS:=fun D σ H=>t { D with nx:=u D } σ H
theorem y_c:PSs X [] tNext:=fun _ _ σ H _ I h=>wpAny_execs_nil ⟨σ,H,I,h⟩
theorem z_e(h1:PS X st t)(h2:PSs X rest u):PSs X (st::rest) (tSeq t u):=by
 intro pins s σ H D I h
 refine wpAny_execs_cons (thn (h1 pins s σ H { D with nx:=u D } I h) fun f s1 q=>?_)
 cases f with
 | next =>
  obtain ⟨σ',H',I',q⟩:=q
  exact h2 pins s1 σ' H' D I' q
 | ret v=>exact q
 | brk=>exact q
 | cont=>exact q
theorem z_h(h1:PS X st t):PSs X [st] t:=by
 intro pins s σ H D I h
 refine wpAny_execs_cons (thn (h1 pins s σ H D I h) fun f s1 q=>?_)
 cases f with
 | next=>exact wpAny_execs_nil q
 | ret v=>exact q
 | brk=>exact q
 | cont=>exact q
def tCont:TS:=fun D σ H=>D.ct σ H
theorem l_i:PS X (.Continue pos) tCont:=fun _ _ σ H _ I h=>wpAny_Continue ⟨σ,H,I,h⟩
theorem Inv.quiet{pins:List (Addr×Obj)}{σ:St}{H:Hp}{s:Shared}(I:Inv X pins σ H s):interactive X.env=false:=by simp [interactive,I.ok.kind]
def tDrop(te:TE):TS:=fun D σ H=>te σ H fun _ H1=>D.nx σ H1
theorem y_l(he:PE X e te)(hs:swapsWith e none pos.line X.env=pure false:=by rfl):PS X (.Expr e pos) (tDrop te):=by
 intro pins s σ H D I h
 exact wpAny_Expr_any (thn (he pins s σ H _ I h) fun v s1 ⟨x,H1,I1,r1,q1⟩=>⟨σ,H1,I1,q1⟩) I.quiet hs
def tRet(te:TE):TS:=fun D σ H=>te σ H D.rt
theorem z_y(he:PE X e te):PS X (.Return (some e) pos) (tRet te):=by
 intro pins s σ H D I h
 exact wpAny_Return_some (thn (he pins s σ H _ I h) fun v s1 ⟨x,H1,I1,r1,q1⟩=>⟨x,σ,H1,I1,r1,q1⟩)
def tIfS(c:TT)(t u:TS):TS:=fun D σ H=>c σ H fun b H1=>if b=true then t D σ H1 else u D σ H1
theorem x_j{c:Expr}{a b:List Stmt}{tc:TT}(hc:PT X c tc)(ha:PSs X a t)(hb:PSs X b u):PS X (.If c a b pos) (tIfS tc t u):=by
 intro pins s σ H D I h
 refine wpAny_If (thn (hc pins s σ H _ I h) fun d s1 ⟨H1,I1,q1⟩=>?_)
 cases d with
 | true=>exact ha pins s1 σ H1 D I1 q1
 | false=>exact hb pins s1 σ H1 D I1 q1
def tNever:TS:=fun _ _ _=>False
theorem v_f:PS X st tNever:=fun _ _ _ _ _ _ h=>h.elim
end
abbrev TG:=V->St->Hp->(St->Hp->Prop)->Prop
abbrev TGs:=List V->St->Hp->(St->Hp->Prop)->Prop
def PG(X:Cx)(target:Expr)(t:TG):Prop :=
 ∀ (pins:List (Addr×Obj)) (s:Shared) (σ:St) (H:Hp) (v:V) (u:Value) (Q:St->Hp->Prop),Inv X pins σ H s->RelV v u->t v σ H Q ->
  wpAny (model X.prog X.w) X.A (assign target X.env u) (fun _ s'=>∃ σ' H',Inv X pins σ' H' s'/\Q σ' H') X.xe s
def PGs(X:Cx)(ts:List Expr)(t:TGs):Prop :=
 ∀ (pins:List (Addr×Obj)) (s:Shared) (σ:St) (H:Hp) (vs:List V) (us:List Value) (Q:St->Hp->Prop),Inv X pins σ H s->Vals vs us->t vs σ H Q ->
  wpAny (model X.prog X.w) X.A (assignInOrder ((assignEach ts X.env).map (·.2)) us) (fun _ s'=>∃ σ' H',Inv X pins σ' H' s'/\Q σ' H') X.xe s
abbrev TSet:=V->V->V->Hp->(Hp->Prop)->Prop
def PSet(X:Cx)(t:TSet):Prop :=
 ∀ (pins:List (Addr×Obj)) (s:Shared) (σ:St) (H:Hp) (o i v:V) (ov iv u:Value) (Q:Hp->Prop),Inv X pins σ H s->RelV o ov->RelV i iv->RelV v u->t o i v H Q ->
  wpAny (model X.prog X.w) X.A (setItem ov iv u) (fun _ s'=>∃ H',Inv X pins σ H' s'/\Q H') X.xe s
section
variable {X:Cx} {pos:Pos}
def gName(i:Nat):TG:=fun v σ H Q=>Q (σ.set i (some v)) H
theorem z_t{i:Nat}{x:Str}(hN:X.N.Nodup)(hi:X.N[i]? = some x)(hx:Loc X.env.scope x)(hf:X.fn x=true\/X.env.scope.names.lookup x=some .local:=by first | exact .inl rfl | exact .inr rfl | assumption):PG X (.Name x pos) (gName i):=by
 intro pins s σ H v u Q I r h
 exact wpAny_assign_Name (p_u I hN hi hx r (fun s' I'=>⟨_,H,I',h⟩) hf)
def gNil:TGs:=fun vs σ H Q=>vs=[]/\Q σ H
def gCons(t:TG)(u:TGs):TGs:=fun vs σ H Q=>∃ v r,vs=v::r/\t v σ H fun σ' H'=>u r σ' H' Q
theorem y_o:PGs X [] gNil:=by
 intro pins s σ H vs us Q I r h
 obtain ⟨e,h⟩:=h
 subst e
 cases r
 exact assignInOrder_nil ⟨σ,H,I,h⟩
theorem z_u{e:Expr}{es:List Expr}{t:TG}{u:TGs}(h1:PG X e t)(h2:PGs X es u)
  (hs:(assignEach (e::es) X.env).map (·.2)=assign e X.env::(assignEach es X.env).map (·.2):=by rfl):PGs X (e::es) (gCons t u):=by
 intro pins s σ H vs us Q I r h
 obtain ⟨v,vr,e1,h⟩:=h
 subst e1
 cases r with
 | cons r rr =>
  rw [hs]
  refine assignInOrder_cons (thn (h1 pins s σ H _ _ _ I r h) fun _ s1 ⟨σ1,H1,I1,q1⟩=>?_)
  exact h2 pins s1 σ1 H1 _ _ Q I1 rr q1
def gTup(K:PySem.W.Frag)(n:Nat)(t:TGs):TG:=fun v σ H Q=>∃ a xs,v = .ref a/\SqT K H a xs/\xs.length=n/\t xs σ H Q
theorem k_j{es:List Expr}{k:Nat}{t:TGs}{n:Nat}(hc:X.calm=true)(h:PGs X es t)
  (hn:(assignEach es X.env).length=n:=by rfl) (hst:(assignEach es X.env).findIdx? (·.1)=none:=by rfl):PG X (.Tuple es k pos) (gTup X.K n t):=by
 intro pins s σ H v u Q I r hw
 obtain ⟨a,xs,e1,hq,hl,hw⟩:=hw
 subst e1
 cases r
 obtain ⟨its,rv,ht,hz⟩:=I.tuple hq
 refine assign_Tuple_tuple (I.ok.hd hc) ht (by simp [hn,<-hl,rv.length]) hst fun h' hx=>?_
 have I1:Inv X pins σ H { s with heap:=h' }:=I.kept (t':=s.toks) fun b o e=>hx b o (Nat.ne_of_lt (Heap.lt_size e)) e
 exact h pins _ σ H xs _ Q I1 (by simpa using rv) hw
def gSub(to ti:TE)(t:TSet):TG:=fun v σ H Q=>to σ H fun o H1=>ti σ H1 fun i H2=>t o i v H2 fun H3=>Q σ H3
theorem pg_sub{o i:Expr}{to ti:TE}{t:TSet}(ho:PE X o to)(hi:PE X i ti)(hs:PSet X t)
  (ha:∀ v,assign (.Subscript o i pos) X.env v=(do
   let ov <-holding [v] (eval o X.env)
   let iv <-holding [v,ov] (eval i X.env)
   standAt pos
   holding [v,ov,iv] (setItem ov iv v)
   release [v,ov,iv] []):=by intro _;rfl):PG X (.Subscript o i pos) (gSub to ti t):=by
 intro pins s σ H v u Q I r h
 rw [ha]
 refine wpAny_bind (wpAny_holding (thn (ho pins s σ H _ I h) fun ov s1 ⟨x,H1,I1,r1,q1⟩=>?_))
 refine wpAny_bind (wpAny_holding (thn (hi pins s1 σ H1 _ I1 q1) fun iv s2 ⟨y,H2,I2,r2,q2⟩=>?_))
 refine wpAny_bind (wpAny_standAt (wpAny_bind (wpAny_holding (thn (hs pins s2 σ H2 x y v ov iv u _ I2 r1 r2 r q2) fun _ s3 ⟨H3,I3,q3⟩=>?_))))
 exact wpAny_release ⟨σ,H3,I3,q3⟩
def tAsg(te:TE)(g:TG):TS:=fun D σ H=>te σ H fun x H1=>g x σ H1 D.nx
theorem q_m{tg e:Expr}{te:TE}{g:TG}(he:PE X e te)(hg:PG X tg g)(hs:swapsWithSole [tg] e pos.line X.env=pure false:=by rfl)(hw:swappedStores [tg] e X.env=pure none:=by rfl)
  (h1:(assignEach [tg] X.env).map (·.2)=[assign tg X.env]:=by rfl):PS X (.Assign [tg] e pos) (tAsg te g):=by
 intro pins s σ H D I h
 refine wpAny_Assign_stores (thn (he pins s σ H _ I h) fun v s1 ⟨x,H1,I1,r1,q1⟩=>?_) hs hw
 rw [h1]
 exact thn (hg pins s1 σ H1 x v _ I1 r1 q1) fun _ s2 q=>q
theorem z_v{i:Nat}{x:Str}{e:Expr}{te:TE}{pos':Pos}(hN:X.N.Nodup)(hi:X.N[i]? = some x)(hx:Loc X.env.scope x)(he:PE X e te)(hs:swapsWith e (some (.Name x pos')) pos.line X.env=pure false:=by rfl)(hf:X.fn x=true\/X.env.scope.names.lookup x=some .local:=by first | exact .inl rfl | exact .inr rfl | assumption) :
  PS X (.Assign [.Name x pos'] e pos) (tAsg te (gName i)):=by
 intro pins s σ H D I h
 refine wpAny_Assign_Name (thn (he pins s σ H _ I h) fun v s1 ⟨y,H1,I1,r1,q1⟩=>?_) hs
 exact p_u I1 hN hi hx r1 (fun s2 I2=>⟨_,H1,I2,q1⟩) hf
end
section
variable {X:Cx} {pos:Pos}
def tWhile(c:TT)(tb:TS):TS:=fun D σ H=>∃ W:Nat->St->Hp->Prop,(∃ m,W m σ H)/\∀ m σ H,W m σ H ->
 c σ H fun b H1=>if b=true then ∃ N:St->Hp->Prop,(∀ σ' H',N σ' H'->∃ m',m'<m/\W m' σ' H')/\tb { D with nx:=N,ct:=N,bk:=D.nx } σ H1 else D.nx σ H1
theorem k_k{c:Expr}{body:List Stmt}{tc:TT}{tb:TS}(hp:PassesOwn (model X.prog X.w) X.A X.env X.xe)(hc:PT X c tc)(hb:PSs X body tb):PS X (.While c body [] pos) (tWhile tc tb):=by
 intro pins s σ H D I h
 obtain ⟨W,⟨m0,w0⟩,turn⟩:=h
 refine wpAny_While (codeAny_whileLoop (fun n s'=>∃ σ' H',Inv X pins σ' H' s'/\W n σ' H') ?_ m0 ⟨σ,H,I,w0⟩)
 rintro n s1 ⟨σ1,H1,I1,w1⟩
 refine wpAny_passesOwn hp (thn (hc pins s1 σ1 H1 _ I1 (turn n σ1 H1 w1)) fun b s2 ⟨H2,I2,q2⟩=>?_)
 cases b with
 | true =>
  obtain ⟨N,hN,q2⟩:=q2
  rw [if_pos rfl]
  refine wpAny_passesOwn hp (thn (hb pins s2 σ1 H2 _ I2 q2) fun f s3 q3=>?_)
  cases f with
  | next =>
   obtain ⟨σ3,H3,I3,n3⟩:=q3
   obtain ⟨m',hm,w3⟩:=hN σ3 H3 n3
   exact ⟨m',hm,σ3,H3,I3,w3⟩
  | cont =>
   obtain ⟨σ3,H3,I3,n3⟩:=q3
   obtain ⟨m',hm,w3⟩:=hN σ3 H3 n3
   exact ⟨m',hm,σ3,H3,I3,w3⟩
  | brk=>exact q3
  | ret v=>exact q3
 | false =>
  rw [if_neg Bool.false_ne_true]
  exact wpAny_execs_nil ⟨σ1,H2,I2,q2⟩
end
structure It where
 go:Nat->Hp->Prop
 yld:Nat->Hp->V->Hp->Prop
 stop:Nat->Hp->Prop
def FpOk(X:Cx)(pins:List (Addr×Obj))(H:Hp)(b:Addr):Prop :=
 H b=none/\b≠X.env.locals/\b∉X.fs/\(b∈X.ex\/X.s₀.heap.objs.size<=b)/\(∀ x c,X.env.cells.lookup x=some c->c≠b)/\∀ p∈X.pn++pins,p.1≠b
theorem Inv.fpOk{X:Cx}{pins:List (Addr×Obj)}{σ:St}{H H':Hp}{s:Shared}{b:Addr}(I:Inv X pins σ H s)(hb:s.heap.objs.size<=b)(hn:H' b=none):FpOk X pins H' b:=by
 refine ⟨hn,Nat.ne_of_gt (Nat.lt_of_lt_of_le I.lt hb),I.nofs hb,.inr (Nat.le_trans I.sz hb),fun x c e z=>?_,fun p hp z=>?_⟩
 ·obtain ⟨v,q⟩:=I.cell x c e
  exact absurd (Nat.lt_of_lt_of_le q.lt (by rw [z];exact hb)) (Nat.lt_irrefl _)
 ·exact absurd (Nat.lt_of_lt_of_le (Heap.lt_size (I.pin p hp).1) (by rw [z];exact hb)) (Nat.lt_irrefl _)
structure Turn(P:Program)(w:World)(K:PySem.W.Frag)(tg:Expr)(J:It)(fp:List Addr)(it:Addr)(tn:Nat->Heap->Prop):Prop where
 mem:it∈fp
 obj:∀ i h,tn i h->∀ b∈fp,∃ o,h.get? b=some o/\∀ v,o.data ≠ .cell v
 keep:∀ i h h',tn i h->(∀ b∈fp,∀ o,h.get? b=some o->h'.get? b=some o)->tn i h'
 item:∀ (X:Cx),X.prog=P->X.w=w->X.K=K->X.calm=true->∀ (i:Nat) (pins:List (Addr×Obj)) (s:Shared) (σ:St) (H:Hp) (E:Value->Shared->Prop),Inv X pins σ H s->(∀ b∈fp,FpOk X pins H b)->tn i s.heap->J.go i H ->
  wpAny (model P w) X.A (pyNext (.ref it)) (fun r s1=>∃ u,r=some u /\
   wpAny (model P w) X.A (letOwnedTupleGo tg (.ref it) u) (fun _ s2=>∃ x H',Inv X pins σ H' s2/\RelV x u/\J.yld i H x H'/\tn (i+1) s2.heap/\∀ b∈fp,H' b=none) E s1) E s
 done:∀ (X:Cx),X.prog=P->X.w=w->X.K=K->X.calm=true->∀ (i:Nat) (pins:List (Addr×Obj)) (s:Shared) (σ:St) (H:Hp) (E:Value->Shared->Prop),Inv X pins σ H s->(∀ b∈fp,FpOk X pins H b)->tn i s.heap->J.stop i H ->
  wpAny (model P w) X.A (pyNext (.ref it)) (fun r s1=>r=none/\Inv X pins σ H s1) E s
 self:∀ (A:Around) (i:Nat) (s:Shared) (Q:Value->Shared->Prop) (E:Value->Shared->Prop),tn i s.heap->Q (.ref it) s->wpAny (model P w) A (pyIter (.ref it)) Q E s
abbrev TI:=St->Hp->(It->Hp->Prop)->Prop
def PIE(X:Cx)(pins:List (Addr×Obj))(σ:St)(tg:Expr)(R:It->Hp->Prop)(itv:Value)(s2:Shared):Prop :=
 ∃ (it:Addr) (fp:List Addr) (tn:Nat->Heap->Prop) (J:It) (H':Hp),itv = .ref it/\Inv X pins σ H' s2/\Turn X.prog X.w X.K tg J fp it tn/\tn 0 s2.heap/\(∀ b∈fp,FpOk X pins H' b)/\R J H'
def PI(X:Cx)(tg iter:Expr)(wi:TI):Prop :=
 ∀ (pins:List (Addr×Obj)) (s:Shared) (σ:St) (H:Hp) (R:It->Hp->Prop),Inv X pins σ H s->wi σ H R ->
  wpAny (model X.prog X.w) X.A (eval iter X.env) (fun v s1=>wpAny (model X.prog X.w) X.A (pyIter v) (PIE X pins σ tg R) X.xe s1) X.xe s
theorem go_of{M : Model}{A : Around}{E : Value -> Shared -> Prop}{s : Shared}{tg : Expr}{it : Addr}{u : Value}{o : Obj}{n : String}{vs : Array Value}{Q : Unit -> Shared -> Prop}(ho : s.heap.get? it = some o)(hc : o.cls = .type n)(hd : o.data = .fields vs)
    (hn : ["enumerate", "zip", "dict_itemiterator", "dict_reverseitemiterator", "odict_iterator", "itertools.zip_longest", "itertools.pairwise"].contains n = false) (hQ : Q () s) : wpAny M A (letOwnedTupleGo tg (.ref it) u) Q E s := by
  unfold letOwnedTupleGo
  cases tg <;> first
    | exact wpAny_pure hQ
    | (cases u <;> first
        | exact wpAny_pure hQ
        | (refine wpAny_bind (wpAny_load ho ?_)
           rw [hc, hd]
           show wpAny M A (if (["enumerate", "zip", "dict_itemiterator", "dict_reverseitemiterator", "odict_iterator", "itertools.zip_longest", "itertools.pairwise"].contains n && vs[0]? == some (rawInt _)) = true then _ else _) Q E s
           rw [if_neg (by intro h; rw [hn, Bool.false_and] at h; cases h)]
           exact wpAny_pure hQ))
def Itl(K:PySem.W.Frag)(a:Addr):It :=
 ⟨fun i H=>∃ xs x,SqL K H a xs/\xs[i]? = some x,fun i H x H'=>H'=H/\∀ xs,SqL K H a xs->xs[i]? = some x,fun i H=>∃ xs,SqL K H a xs/\xs.length<=i⟩
def Itt(K:PySem.W.Frag)(a:Addr):It :=
 ⟨fun i H=>∃ xs x,SqT K H a xs/\xs[i]? = some x,fun i H x H'=>H'=H/\∀ xs,SqT K H a xs->xs[i]? = some x,fun i H=>∃ xs,SqT K H a xs/\xs.length<=i⟩
def Itr(lo:Int)(n:Nat):It:=⟨fun i _=>i<n,fun i H x H'=>H'=H/\x = .int (lo+i),fun i _=>n<=i⟩
theorem f_r{P:Program}{w:World}{K:PySem.W.Frag}{tg:Expr}(a it:Addr):Turn P w K tg (Itl K a) [it] it (fun i h=>h.IsListIter it a i) where
 mem:=by simp
 obj:=fun i h st b hb=>by
  have e:b=it:=by simpa using hb
  subst e
  obtain ⟨o,e,c,d⟩:=st
  exact ⟨o,e,fun v z=>by rw [d] at z;cases z⟩
 keep:=fun i h h' st k=>st.at fun o e=>k it (by simp) o e
 item:=by
  intro X hP hw hK hc i pins s σ H E I hf st hg
  subst hP hw hK
  obtain ⟨xs,x,hq,hx⟩:=hg
  obtain ⟨its,rv,p,hz⟩:=I.list hq
  obtain ⟨u,hu,ru⟩:=rv.get hx
  obtain ⟨f0,f1,f2,f3,f4,f5⟩:=hf it (by simp)
  refine wpAny_pyNext_list_item st p.isList (x:=u) (by simpa using hu) fun h' st' sb=>?_
  have I1:Inv X pins σ H { s with heap:=h' }:=I.turned (t':=s.toks) (fun b o hb e=>(sb.2 b hb).trans e) f0 f1 f3 f4 f5
  obtain ⟨o,e,c,d⟩:=id st'
  exact ⟨u,rfl,go_of (s:={ s with heap:=h' }) e c d (by decide) ⟨x,H,I1,ru,⟨rfl,fun ys hy=>by rw [I.list_inj hy hq];exact hx⟩,st',fun b hb=>(hf b hb).1⟩⟩
 done:=by
  intro X hP hw hK hc i pins s σ H E I hf st hg
  subst hP hw hK
  obtain ⟨xs,hq,hx⟩:=hg
  obtain ⟨its,rv,p,hz⟩:=I.list hq
  obtain ⟨f0,f1,f2,f3,f4,f5⟩:=hf it (by simp)
  have hl:=rv.length
  exact wpAny_pyNext_list_end (I.ok.hd hc) st p.isList (by simp;lia) fun h' eb=>⟨rfl,I.turned (t':=s.toks) (fun b o hb e=>eb b o hb e) f0 f1 f3 f4 f5⟩
 self:=fun _ _ _ _ _ st h=>wpAny_pyIter_listiter st h
theorem i_q{P:Program}{w:World}{K:PySem.W.Frag}{tg:Expr}(a it:Addr):Turn P w K tg (Itt K a) [it] it (fun i h=>h.IsTupleIter it a i) where
 mem:=by simp
 obj:=fun i h st b hb=>by
  have e:b=it:=by simpa using hb
  subst e
  obtain ⟨o,e,c,d⟩:=st
  exact ⟨o,e,fun v z=>by rw [d] at z;cases z⟩
 keep:=fun i h h' st k=>st.at fun o e=>k it (by simp) o e
 item:=by
  intro X hP hw hK hc i pins s σ H E I hf st hg
  subst hP hw hK
  obtain ⟨xs,x,hq,hx⟩:=hg
  obtain ⟨its,rv,p,hz⟩:=I.tuple hq
  obtain ⟨u,hu,ru⟩:=rv.get hx
  obtain ⟨f0,f1,f2,f3,f4,f5⟩:=hf it (by simp)
  refine wpAny_pyNext_tuple_item st (show s.heap.IsTuple a its.toArray from p) (x:=u) (by simpa using hu) fun h' st' sb=>?_
  have I1:Inv X pins σ H { s with heap:=h' }:=I.turned (t':=s.toks) (fun b o hb e=>(sb.2 b hb).trans e) f0 f1 f3 f4 f5
  obtain ⟨o,e,c,d⟩:=id st'
  exact ⟨u,rfl,go_of (s:={ s with heap:=h' }) e c d (by decide) ⟨x,H,I1,ru,⟨rfl,fun ys hy=>by rw [I.tuple_inj hy hq];exact hx⟩,st',fun b hb=>(hf b hb).1⟩⟩
 done:=by
  intro X hP hw hK hc i pins s σ H E I hf st hg
  subst hP hw hK
  obtain ⟨xs,hq,hx⟩:=hg
  obtain ⟨its,rv,p,hz⟩:=I.tuple hq
  obtain ⟨f0,f1,f2,f3,f4,f5⟩:=hf it (by simp)
  have hl:=rv.length
  exact wpAny_pyNext_tuple_end (I.ok.hd hc) st (show s.heap.IsTuple a its.toArray from p) (by simp;lia) fun h' eb=>⟨rfl,I.turned (t':=s.toks) (fun b o hb e=>eb b o hb e) f0 f1 f3 f4 f5⟩
 self:=fun _ _ _ _ _ st h=>wpAny_pyIter_tupleiter st h
theorem i_p{P:Program}{w:World}{K:PySem.W.Frag}{tg:Expr}(it:Addr)(lo:Int)(n:Nat):Turn P w K tg (Itr lo n) [it] it (fun i h=>IsRangeIter h it (lo+(i:Nat)*1) ((n:Int)-(i:Nat)) 1) where
 mem:=by simp
 obj:=fun i h st b hb=>by
  have e:b=it:=by simpa using hb
  subst e
  exact ⟨_,st,fun v z=>by
   have z':Data.fields _=Data.cell v:=z
   cases z'⟩
 keep:=fun i h h' st k=>k it (by simp) _ st
 item:=by
  intro X hP hw hK hc i pins s σ H E I hf st hg
  subst hP hw hK
  obtain ⟨f0,f1,f2,f3,f4,f5⟩:=hf it (by simp)
  have W:=Walks.range (prog:=X.prog) (w:=X.w) (I.ok.hd hc) it lo 1 n
  refine W.item i s _ _ hg st fun v h' tk hv st' kk=>?_
  obtain ⟨t,rfl⟩:=hv
  have I1:Inv X pins σ H { s with heap:=h',toks:=tk }:=I.turned (fun b o hb e=>kk b o (by simpa using hb) e) f0 f1 f3 f4 f5
  refine ⟨_,rfl,go_of (s:={ s with heap:=h',toks:=tk }) (n := "range_iterator") st' rfl rfl (by decide) ⟨.int (lo+i),H,I1,⟨t,?_⟩,⟨rfl,rfl⟩,st',fun b hb=>(hf b hb).1⟩⟩
  rw [Int.mul_one]
 done:=by
  intro X hP hw hK hc i pins s σ H E I hf st hg
  subst hP hw hK
  obtain ⟨f0,f1,f2,f3,f4,f5⟩:=hf it (by simp)
  exact wpAny_pyNext_range_end (I.ok.hd hc) st (by have:n<=i:=hg;lia) fun h' eb=>⟨rfl,I.turned (t':=s.toks) (fun b o hb e=>eb b o hb e) f0 f1 f3 f4 f5⟩
 self:=fun _ _ _ _ _ st h=>wpAny_pyIter_rangeiter st h
open PySem PySem.Spec PyProof.Rows
section
variable {X:Cx} {tg:Expr}
def iList(K:PySem.W.Frag)(tl:TE):TI:=fun σ H R=>tl σ H fun x H1=>∃ a,x = .ref a/\(∃ xs,SqL K H1 a xs)/\R (Itl K a) H1
def iTup(K:PySem.W.Frag)(tl:TE):TI:=fun σ H R=>tl σ H fun x H1=>∃ a,x = .ref a/\(∃ xs,SqT K H1 a xs)/\R (Itt K a) H1
theorem g_n{l:Expr}{tl:TE}(hl:PE X l tl):PI X tg l (iList X.K tl):=by
 intro pins s σ H R I h
 refine thn (hl pins s σ H _ I h) fun v s1 ⟨x,H1,I1,r1,q1⟩=>?_
 obtain ⟨a,e,⟨xs,hq⟩,q⟩:=q1
 subst e
 cases r1
 obtain ⟨its,rv,p,hz⟩:=I1.list hq
 refine wpAny_pyIter_list p.isList ?_
 refine ⟨s1.heap.objs.size,[s1.heap.objs.size],_,_,H1,rfl,I1.kept (t':=s1.toks) fun b o e=>Heap.get?_push_of_some _ e,f_r a _,⟨_,Heap.get?_push_size _ rfl,rfl,rfl⟩,fun b hb=>?_,q⟩
 have e:b=s1.heap.objs.size:=by simpa using hb
 subst e
 exact I1.fpOk (Nat.le_refl _) (I1.hok.fresh (Nat.le_refl _))
theorem g_q{l:Expr}{tl:TE}(hl:PE X l tl):PI X tg l (iTup X.K tl):=by
 intro pins s σ H R I h
 refine thn (hl pins s σ H _ I h) fun v s1 ⟨x,H1,I1,r1,q1⟩=>?_
 obtain ⟨a,e,⟨xs,hq⟩,q⟩:=q1
 subst e
 cases r1
 obtain ⟨its,rv,p,hz⟩:=I1.tuple hq
 refine wpAny_pyIter_tuple (show s1.heap.IsTuple a its.toArray from p) ?_
 refine ⟨s1.heap.objs.size,[s1.heap.objs.size],_,_,H1,rfl,I1.kept (t':=s1.toks) fun b o e=>Heap.get?_push_of_some _ e,i_q a _,⟨_,Heap.get?_push_size _ rfl,rfl,rfl⟩,fun b hb=>?_,q⟩
 have e:b=s1.heap.objs.size:=by simpa using hb
 subst e
 exact I1.fpOk (Nat.le_refl _) (I1.hok.fresh (Nat.le_refl _))
theorem k_m{pins:List (Addr×Obj)}{σ:St}{H:Hp}{s:Shared}{R:It->Hp->Prop}{E:Value->Shared->Prop}{lo hi:Int}{t u v:Tok}{tk:Nat}(I:Inv X pins σ H s)(h1 : -(2^62)<=lo)(h2:lo<2^62)(h3 : -(2^62)<=hi)(h4:hi<2^62)
  (q:R (Itr lo (hi-lo).toNat) H):wpAny (model X.prog X.w) X.A (pyIter (.ref s.heap.objs.size)) (PIE X pins σ tg R) E { s with heap:=s.heap.push { cls:=.type "range",data:=.fields #[.int lo t,.int hi u,.int 1 v] },toks:=tk }:=by
 refine wpAny_pyIter_range (IsRange.new ..) (small_one h1 h2 h3 h4) ?_
 have I1:Inv X pins σ H { s with heap:=s.heap.push { cls:=.type "range",data:=.fields #[.int lo t,.int hi u,.int 1 v] },toks:=tk }:=I.kept fun b o e=>Heap.get?_push_of_some _ e
 refine ⟨(s.heap.push { cls:=.type "range",data:=.fields #[.int lo t,.int hi u,.int 1 v] }).objs.size,[(s.heap.push { cls:=.type "range",data:=.fields #[.int lo t,.int hi u,.int 1 v] }).objs.size],_,_,H,rfl,
  I1.kept (t':=tk) fun b o e=>Heap.get?_push_of_some _ e,i_p _ lo (hi-lo).toNat,?_,fun b hb=>?_,q⟩
 ·have e1:lo+((0:Nat):Int)*1=lo:=by simp
  have e2:(((hi-lo).toNat:Nat):Int)-((0:Nat):Int)=Builtin.Range.rangeSize lo hi 1:=by rw [rangeSize_one];split<;>lia
  show IsRangeIter _ _ (lo+((0:Nat):Int)*1) ((((hi-lo).toNat:Nat):Int)-((0:Nat):Int)) 1
  rw [e1,e2]
  exact Heap.get?_push_size _ rfl
 ·have e:b=(s.heap.push { cls:=.type "range",data:=.fields #[.int lo t,.int hi u,.int 1 v] }).objs.size:=by simpa using hb
  subst e
  exact I1.fpOk (Nat.le_refl _) (I1.hok.fresh (Nat.le_refl _))
def iRng1(ta:TA):TI:=fun σ H R=>ta σ H fun vs H1=>∃ j:Int,vs=[.int j] /\ -(2^62)<=j/\j<2^62/\R (Itr 0 j.toNat) H1
def iRng2(ta:TA):TI:=fun σ H R=>ta σ H fun vs H1=>∃ i j:Int,vs=[.int i,.int j]/\(-(2^62)<=i/\i<2^62 /\ -(2^62)<=j/\j<2^62)/\R (Itr i (j-i).toNat) H1
theorem y_j{a:Expr}{ta:TA}{p pos:Pos}(hg:Gl X "range")(hm:X.mg "range" = none)(ha:PA X [a] ta)(hs:starEach [a] X.env=[(false,eval a X.env)]:=by rfl):PI X tg (.Call (.Name "range" p) [a] [] pos) (iRng1 ta):=by
 intro pins s σ H R I h
 refine Call_ (t_f I hg hm boot_range (PyProof.Rows.callWith_type1 (thn (ha pos pins s σ H _ I h) fun us s1 ⟨vs,H1,I1,r1,q1⟩=>?_) hs rfl))
 obtain ⟨j,e,q1,q2,q⟩:=q1
 subst e
 cases r1 with
 | cons r rr =>
  cases rr
  obtain ⟨t,rfl⟩:=r
  exact call_range_1 (k_m I1 (by lia) (by lia) q1 q2 (by simpa using q))
theorem g_o{a b:Expr}{ta:TA}{p pos:Pos}(hg:Gl X "range")(hm:X.mg "range" = none)(ha:PA X [a,b] ta)(hs:starEach [a,b] X.env=[(false,eval a X.env),(false,eval b X.env)]:=by rfl)(hs2:starEach [b] X.env=[(false,eval b X.env)]:=by rfl) :
  PI X tg (.Call (.Name "range" p) [a,b] [] pos) (iRng2 ta):=by
 intro pins s σ H R I h
 refine Call_ (t_f I hg hm boot_range (PyProof.Rows.callWith_type1 (thn (ha pos pins s σ H _ I h) fun us s1 ⟨vs,H1,I1,r1,q1⟩=>?_) (by rw [hs,hs2]) (by rw [hs2];rfl)))
 obtain ⟨i,j,e,⟨q1,q2,q3,q4⟩,q⟩:=q1
 subst e
 cases r1 with
 | cons r rr =>
  cases rr with
  | cons r' rr =>
   cases rr
   obtain ⟨t,rfl⟩:=r
   obtain ⟨t',rfl⟩:=r'
   exact call_range_2 (k_m I1 q1 q2 q3 q4 q)
def tFor(wi:TI)(g:TG)(tb:TS):TS:=fun D σ H=>wi σ H fun J H1=>∃ W:Nat->Nat->St->Hp->Prop,(∃ m,W 0 m σ H1)/\∀ i m σ H,W i m σ H ->
 (J.stop i H/\D.nx σ H)\/(J.go i H/\∃ N:St->Hp->Prop,(∀ σ' H',N σ' H'->∃ m',m'<m/\W (i+1) m' σ' H')/\∀ x H',J.yld i H x H'->g x σ H' fun σ2 H2=>tb { D with nx:=N,ct:=N,bk:=D.nx } σ2 H2)
def pinsAt(fp:List Addr)(h:Heap):List (Addr×Obj):=fp.filterMap fun b=>(h.get? b).map fun o=>(b,o)
theorem t_a{fp:List Addr}{h:Heap}{b:Addr}{o:Obj}(hb:b∈fp)(e:h.get? b=some o):(b,o)∈pinsAt fp h:=List.mem_filterMap.mpr ⟨b,hb,by rw [e];rfl⟩
theorem o_x{fp:List Addr}{h:Heap}{p:Addr×Obj}(hp:p∈pinsAt fp h):p.1∈fp/\h.get? p.1=some p.2:=by
 obtain ⟨b,hb,e⟩:=List.mem_filterMap.mp hp
 cases q:h.get? b with
 | none=>rw [q] at e;cases e
 | some o =>
  rw [q] at e
  have e':(b,o)=p:=Option.some.inj e
  subst e'
  exact ⟨hb,q⟩
theorem Inv.pinned{pins:List (Addr×Obj)}{σ:St}{H:Hp}{s:Shared}{fp:List Addr}(I:Inv X pins σ H s)(hf:∀ b∈fp,FpOk X pins H b)(ho:∀ b∈fp,∃ o,s.heap.get? b=some o/\∀ v,o.data ≠ .cell v):Inv X (pins++pinsAt fp s.heap) σ H s :=
 I.pins_of fun p hp=>(List.mem_append.mp hp).elim (fun z=>I.pin p (List.mem_append_right _ z)) fun z=>by
  obtain ⟨hb,e⟩:=o_x z
  obtain ⟨f0,f1,f2,_⟩:=hf p.1 hb
  obtain ⟨o,e',d⟩:=ho p.1 hb
  rw [e] at e';cases e'
  exact ⟨e,f0,f1,f2,d⟩
theorem Inv.unpinned{pins pl:List (Addr×Obj)}{σ:St}{H:Hp}{s:Shared}(I:Inv X (pins++pl) σ H s):Inv X pins σ H s:=I.pins_of fun p hp=>I.pin p (List.mem_append_right _ (List.mem_append_left _ hp))
theorem x_q{iter:Expr}{body:List Stmt}{wi:TI}{g:TG}{tb:TS}{pos:Pos}(hp:PassesOwn (model X.prog X.w) X.A X.env X.xe)(hc:X.calm=true)(hi:PI X tg iter wi)(hg:PG X tg g)(hb:PSs X body tb)
  (hs:∀ x,foldedSetIterable iter X.env x=pure x:=by intro _;rfl):PS X (.For tg iter body [] pos) (tFor wi g tb):=by
 intro pins s σ H D I h
 refine wpAny_For (thn (hi pins s σ H _ I h) fun v s1 h1=>thn h1 fun itv s2 h2=>?_) hs
 obtain ⟨it,fp,tn,J,H2,e,I2,T,st2,f2,W,⟨m0,w0⟩,turn⟩:=h2
 subst e
 have stat:∀ {H':Hp},(∀ b∈fp,H' b=none)->∀ b∈fp,FpOk X pins H' b:=fun hn b hb=>⟨hn b hb,(f2 b hb).2⟩
 refine codeAny_forLoop_any (fun n s'=>∃ i σ' H',Inv X pins σ' H' s'/\tn i s'.heap/\(∀ b∈fp,H' b=none)/\W i n σ' H') ?_ m0 ⟨0,σ,H2,I2,st2,fun b hb=>(f2 b hb).1,w0⟩
 rintro n s3 ⟨i,σ3,H3,I3,st3,fr3,w3⟩
 rcases turn i n σ3 H3 w3 with ⟨stop,qn⟩ | ⟨go,N,hN,step⟩
 ·refine wpAny_passesOwn hp (thn (T.done X rfl rfl rfl hc i pins s3 σ3 H3 X.xe I3 (stat fr3) st3 stop) fun r s4 ⟨hr,I4⟩=>?_)
  subst hr
  exact wpAny_execs_nil ⟨σ3,H3,I4,qn⟩
 ·refine wpAny_passesOwn hp (thn (T.item X rfl rfl rfl hc i pins s3 σ3 H3 X.xe I3 (stat fr3) st3 go) fun r s4 ⟨u,hr,h4⟩=>?_)
  subst hr
  refine wpAny_passesOwn hp (thn h4 fun _ s5 ⟨x,H5,I5,r5,y5,st5,fr5⟩=>?_)
  have I5':=I5.pinned (stat fr5) (T.obj _ _ st5)
  refine wpAny_passesOwn hp (thn (hg _ s5 σ3 H5 x u _ I5' r5 (step x H5 y5)) fun _ s6 ⟨σ6,H6,I6,q6⟩=>?_)
  refine wpAny_passesOwn hp (thn (hb _ s6 σ6 H6 _ I6 q6) fun f s7 q7=>?_)
  have again:∀ {σ7:St} {H7:Hp},Inv X (pins++pinsAt fp s5.heap) σ7 H7 s7->N σ7 H7->∃ m,m<n/\∃ i σ' H',Inv X pins σ' H' s7/\tn i s7.heap/\(∀ b∈fp,H' b=none)/\W i m σ' H':=fun {σ7 H7} I7 n7=>by
   obtain ⟨m',hm,w7⟩:=hN σ7 H7 n7
   refine ⟨m',hm,i+1,σ7,H7,I7.unpinned,T.keep _ _ _ st5 fun b hb o e=>(I7.pin (b,o) (List.mem_append_right _ (List.mem_append_right _ (t_a hb e)))).1,fun b hb=>?_,w7⟩
   obtain ⟨o,e,d⟩:=T.obj _ _ st5 b hb
   exact (I7.pin (b,o) (List.mem_append_right _ (List.mem_append_right _ (t_a hb e)))).2.1
  cases f with
  | next=>obtain ⟨σ7,H7,I7,n7⟩:=q7;exact again I7 n7
  | cont=>obtain ⟨σ7,H7,I7,n7⟩:=q7;exact again I7 n7
  | brk=>obtain ⟨σ7,H7,I7,q7⟩:=q7;exact ⟨σ7,H7,I7.unpinned,q7⟩
  | ret v=>obtain ⟨x7,σ7,H7,I7,r7,q7⟩:=q7;exact ⟨x7,σ7,H7,I7.unpinned,r7,q7⟩
end
theorem t_k{K:PySem.W.Frag}{a:Addr}{xs:List V}{g:TG}{tb:TS}{D:Ends}{σ:St}{H:Hp}(Pv:Nat->St->Hp->Prop)(h0:Pv 0 σ H)(hl:∀ i σ H,i<=xs.length->Pv i σ H->SqL K H a xs)
  (hs:∀ i x σ H,xs[i]? = some x->Pv i σ H->g x σ H fun σ2 H2=>tb { D with nx:=Pv (i+1),ct:=Pv (i+1),bk:=D.nx } σ2 H2) (hd:∀ σ H,Pv xs.length σ H->D.nx σ H) :
  ∃ W:Nat->Nat->St->Hp->Prop,(∃ m,W 0 m σ H)/\∀ i m σ H,W i m σ H ->
   ((Itl K a).stop i H/\D.nx σ H)\/((Itl K a).go i H/\∃ N:St->Hp->Prop,(∀ σ' H',N σ' H'->∃ m',m'<m/\W (i+1) m' σ' H')/\∀ x H',(Itl K a).yld i H x H'->g x σ H' fun σ2 H2=>tb { D with nx:=N,ct:=N,bk:=D.nx } σ2 H2):=by
 refine ⟨fun i m σ H=>m=xs.length-i/\i<=xs.length/\Pv i σ H,⟨xs.length,by simp,Nat.zero_le _,h0⟩,?_⟩
 rintro i m σ H ⟨rfl,hi,p⟩
 have q:=hl i σ H hi p
 by_cases hlt:i<xs.length
 ·refine .inr ⟨⟨xs,xs[i],q,by simp [hlt]⟩,Pv (i+1),fun σ' H' p'=>⟨xs.length-(i+1),by lia,rfl,hlt,p'⟩,fun x H' y=>?_⟩
  obtain ⟨e,y⟩:=y
  subst e
  exact hs i x σ _ (y xs q) p
 ·have e:i=xs.length:=by lia
  subst e
  exact .inl ⟨⟨xs,q,Nat.le_refl _⟩,hd σ H p⟩
theorem h_g{K:PySem.W.Frag}{a:Addr}{xs:List V}{g:TG}{tb:TS}{D:Ends}{σ:St}{H:Hp}(Pv:Nat->St->Hp->Prop)(h0:Pv 0 σ H)(hl:∀ i σ H,i<=xs.length->Pv i σ H->SqT K H a xs)
  (hs:∀ i x σ H,xs[i]? = some x->Pv i σ H->g x σ H fun σ2 H2=>tb { D with nx:=Pv (i+1),ct:=Pv (i+1),bk:=D.nx } σ2 H2) (hd:∀ σ H,Pv xs.length σ H->D.nx σ H) :
  ∃ W:Nat->Nat->St->Hp->Prop,(∃ m,W 0 m σ H)/\∀ i m σ H,W i m σ H ->
   ((Itt K a).stop i H/\D.nx σ H)\/((Itt K a).go i H/\∃ N:St->Hp->Prop,(∀ σ' H',N σ' H'->∃ m',m'<m/\W (i+1) m' σ' H')/\∀ x H',(Itt K a).yld i H x H'->g x σ H' fun σ2 H2=>tb { D with nx:=N,ct:=N,bk:=D.nx } σ2 H2):=by
 refine ⟨fun i m σ H=>m=xs.length-i/\i<=xs.length/\Pv i σ H,⟨xs.length,by simp,Nat.zero_le _,h0⟩,?_⟩
 rintro i m σ H ⟨rfl,hi,p⟩
 have q:=hl i σ H hi p
 by_cases hlt:i<xs.length
 ·refine .inr ⟨⟨xs,xs[i],q,by simp [hlt]⟩,Pv (i+1),fun σ' H' p'=>⟨xs.length-(i+1),by lia,rfl,hlt,p'⟩,fun x H' y=>?_⟩
  obtain ⟨e,y⟩:=y
  subst e
  exact hs i x σ _ (y xs q) p
 ·have e:i=xs.length:=by lia
  subst e
  exact .inl ⟨⟨xs,q,Nat.le_refl _⟩,hd σ H p⟩
theorem v_k{lo:Int}{n:Nat}{g:TG}{tb:TS}{D:Ends}{σ:St}{H:Hp}(Pv:Nat->St->Hp->Prop)(h0:Pv 0 σ H)
  (hs:∀ i σ H,i<n->Pv i σ H->g (.int (lo+i)) σ H fun σ2 H2=>tb { D with nx:=Pv (i+1),ct:=Pv (i+1),bk:=D.nx } σ2 H2) (hd:∀ σ H,Pv n σ H->D.nx σ H) :
  ∃ W:Nat->Nat->St->Hp->Prop,(∃ m,W 0 m σ H)/\∀ i m σ H,W i m σ H ->
   ((Itr lo n).stop i H/\D.nx σ H)\/((Itr lo n).go i H/\∃ N:St->Hp->Prop,(∀ σ' H',N σ' H'->∃ m',m'<m/\W (i+1) m' σ' H')/\∀ x H',(Itr lo n).yld i H x H'->g x σ H' fun σ2 H2=>tb { D with nx:=N,ct:=N,bk:=D.nx } σ2 H2):=by
 refine ⟨fun i m σ H=>m=n-i/\i<=n/\Pv i σ H,⟨n,by simp,Nat.zero_le _,h0⟩,?_⟩
 rintro i m σ H ⟨rfl,hi,p⟩
 by_cases hlt:i<n
 ·refine .inr ⟨hlt,Pv (i+1),fun σ' H' p'=>⟨n-(i+1),by lia,rfl,hlt,p'⟩,fun x H' y=>?_⟩
  obtain ⟨e,y⟩:=y
  subst e y
  exact hs i σ _ hlt p
 ·have e:i=n:=by lia
  subst e
  exact .inl ⟨Nat.le_refl _,hd σ H p⟩
open PySem PySem.Spec PyProof.Rows
abbrev R2:=V->V->Hp->VK->Prop
def OpR(X:Cx)(f:Value->Value->Sem Value)(r:R2):Prop :=
 ∀ (pins:List (Addr×Obj)) (s:Shared) (σ:St) (H:Hp) (x y:V) (v u:Value) (Q:VK),Inv X pins σ H s->RelV x v->RelV y u->r x y H Q ->
  wpAny (model X.prog X.w) X.A (f v u) (EP X pins σ Q) X.xe s
def CallR(X:Cx)(f:Value)(r:List V->Hp->VK->Prop):Prop :=
 ∀ (pins:List (Addr×Obj)) (s:Shared) (σ:St) (H:Hp) (xs:List V) (us:List Value) (Q:VK),Inv X pins σ H s->Vals xs us->r xs H Q ->
  wpAny (model X.prog X.w) X.A (call f us) (EP X pins σ Q) X.xe s
def TruR(X:Cx)(r:V->Hp->(Bool->Hp->Prop)->Prop):Prop :=
 ∀ (pins:List (Addr×Obj)) (s:Shared) (σ:St) (H:Hp) (x:V) (v:Value) (Q:Bool->Hp->Prop),Inv X pins σ H s->RelV x v->r x H Q ->
  wpAny (model X.prog X.w) X.A (truthy v) (TP X pins σ Q) X.xe s
def tOp(r:R2)(ta tb:TE):TE:=fun σ H Q=>ta σ H fun x H1=>tb σ H1 fun y H2=>r x y H2 Q
def rI(C:Int->Int->Prop)(g:Int->Int->V):R2:=fun x y H Q=>∃ i j,x = .int i/\y = .int j/\C i j/\Q (g i j) H
def rI0(g:Int->Int->V):R2:=fun x y H Q=>∃ i j,x = .int i/\y = .int j/\Q (g i j) H
section
variable {X:Cx} {a b c:Expr} {ta tb tc:TE} {pos:Pos}
theorem binT(ha:PE X a ta)(hb:PE X b tb){pins:List (Addr×Obj)}{s:Shared}{σ:St}{H:Hp}{R:V->V->Hp->Prop}(I:Inv X pins σ H s)
  (h:ta σ H fun x H1=>tb σ H1 fun y H2=>R x y H2) {Q:Value->Shared->Prop} {f:Value->Value->Sem Value}
  (hf:∀ v u s2 x y H2,Inv X pins σ H2 s2->RelV x v->RelV y u->R x y H2->wpAny (model X.prog X.w) X.A (f v u) Q X.xe s2) :
  wpAny (model X.prog X.w) X.A (eval a X.env) (fun v s₁=>wpAny (model X.prog X.w) X.A (eval b X.env) (fun u s₂=>wpAny (model X.prog X.w) X.A (f v u) Q X.xe s₂) X.xe s₁) X.xe s:=by
 refine thn (ha pins s σ H _ I h) fun v s1 ⟨x,H1,I1,r1,q1⟩=>?_
 refine thn (hb pins s1 σ H1 _ I1 q1) fun u s2 ⟨y,H2,I2,r2,q2⟩=>?_
 exact hf v u s2 x y H2 I2 r1 r2 q2
theorem z_k{op:Operator}{r:R2}(ho:OpR X (binaryOp op) r)(ha:PE X a ta)(hb:PE X b tb):PE X (.BinOp a op b pos) (tOp r ta tb):=by
 intro pins s σ H Q I h
 exact wpAny_BinOp (binT ha hb I h fun v u s2 x y H2 I2 rx ry q=>ho pins s2 σ H2 x y v u Q I2 rx ry q)
theorem opI{f:Value->Value->Sem Value}{C:Int->Int->Prop}{g:Int->Int->Int}
  (rule:∀ (i j:Int) (t u:Tok) (s:Shared) (Q:Value->Shared->Prop) (E:Value->Shared->Prop),C i j->Q (.int (g i j) s.toks) { s with toks:=s.toks+1 }->wpAny (model X.prog X.w) X.A (f (.int i t) (.int j u)) Q E s) :
  OpR X f (rI C fun i j=>.int (g i j)):=by
 intro pins s σ H x y v u Q I rx ry h
 obtain ⟨i,j,rfl,rfl,hc,q⟩:=h
 obtain ⟨t,rfl⟩:=rx
 obtain ⟨t',rfl⟩:=ry
 exact rule i j t t' s _ _ hc ⟨.int (g i j),H,I.tok _,⟨_,rfl⟩,q⟩
theorem opI0{f:Value->Value->Sem Value}{g:Int->Int->Int}
  (rule:∀ (i j:Int) (t u:Tok) (s:Shared) (Q:Value->Shared->Prop) (E:Value->Shared->Prop),Q (.int (g i j) s.toks) { s with toks:=s.toks+1 }->wpAny (model X.prog X.w) X.A (f (.int i t) (.int j u)) Q E s) :
  OpR X f (rI0 fun i j=>.int (g i j)):=by
 intro pins s σ H x y v u Q I rx ry h
 obtain ⟨i,j,rfl,rfl,q⟩:=h
 obtain ⟨t,rfl⟩:=rx
 obtain ⟨t',rfl⟩:=ry
 exact rule i j t t' s _ _ ⟨.int (g i j),H,I.tok _,⟨_,rfl⟩,q⟩
theorem opB0{f:Value->Value->Sem Value}{g:Int->Int->Bool}
  (rule:∀ (i j:Int) (t u:Tok) (s:Shared) (Q:Value->Shared->Prop) (E:Value->Shared->Prop),Q (.bool (g i j)) s->wpAny (model X.prog X.w) X.A (f (.int i t) (.int j u)) Q E s) :
  OpR X f (rI0 fun i j=>.bl (g i j)):=by
 intro pins s σ H x y v u Q I rx ry h
 obtain ⟨i,j,rfl,rfl,q⟩:=h
 obtain ⟨t,rfl⟩:=rx
 obtain ⟨t',rfl⟩:=ry
 exact rule i j t t' s _ _ ⟨.bl (g i j),H,I,rfl,q⟩
def CPow(i j:Int):Prop:=0<=j/\j<=1000000/\i.natAbs<2^64
def CMul(i j:Int):Prop:=(-(2^64)<i/\i<2^64)\/(-(2^64)<j/\j<2^64)
theorem CMul.ok{i j:Int}(h:CMul i j):IntMulOk i j:=by
 rcases h with ⟨h1,h2⟩ | ⟨h1,h2⟩
 ·exact .of_left (intBits_le_64 h1 h2)
 ·exact .of_right (intBits_le_64 h1 h2)
theorem z_x:OpR X (binaryOp .Add) (rI0 fun i j=>.int (i+j)):=opI0 fun _ _ _ _ _ _ _ q=>add_int q
theorem v_n:OpR X (binaryOp .Sub) (rI0 fun i j=>.int (i-j)):=opI0 fun _ _ _ _ _ _ _ q=>sub_int q
theorem y_h:OpR X (binaryOp .Mult) (rI CMul fun i j=>.int (i*j)):=opI fun _ _ _ _ _ _ _ hc q=>mul_int q hc.ok
theorem x_m:OpR X (binaryOp .Mod) (rI (fun _ j=>0<j) fun i j=>.int (i%j)):=opI fun i j _ _ _ _ _ hc q=>by
 have h1:(0:Int)<j:=hc
 exact mod_int' (by lia) (by rw [Int.fmod_eq_emod_of_nonneg i (by lia)];exact q)
theorem k_h:OpR X (binaryOp .Pow) (rI CPow fun i j=>.int (i^j.toNat)):=opI fun _ _ _ _ _ _ _ hc q=>pow_int_small hc.1 hc.2.1 hc.2.2 q
theorem op_and:OpR X (binaryOp .BitAnd) (rI0 fun i j=>.int (Builtin.bitAnd i j)):=opI0 fun _ _ _ _ _ _ _ q=>and_int q
theorem v_e:OpR X (binaryOp .BitXor) (rI0 fun i j=>.int (Builtin.bitXor i j)):=opI0 fun _ _ _ _ _ _ _ q=>xor_int q
end
def scal:V->V->Bool
 | .non,.non=>true | .non,.int _=>true | .int _,.non=>true | .non,.bl _=>true | .bl _,.non=>true | .non,.str _=>true | .str _,.non=>true
 | .int _,.int _=>true | .bl _,.bl _=>true | .str _,.str _=>true | .byt _,.byt _=>true
 | .int _,.str _=>true | .str _,.int _=>true | .bl _,.str _=>true | .str _,.bl _=>true
 | _,_=>false
def rEq:R2:=fun x y H Q=>scal x y=true/\Q (.bl (decide (x=y))) H
def rNe:R2:=fun x y H Q=>scal x y=true/\Q (.bl (!decide (x=y))) H
theorem h_c{i j:Int}:decide (V.int i=V.int j)=(i == j):=by
 rw [Bool.eq_iff_iff]
 simp
theorem dec_bl{i j:Bool}:decide (V.bl i=V.bl j)=(i == j):=by
 rw [Bool.eq_iff_iff]
 simp
theorem h_d{i j:Str}:decide (V.str i=V.str j)=(i == j):=by
 rw [Bool.eq_iff_iff]
 simp
theorem h_b{i j:Array UInt8}:decide (V.byt i=V.byt j)=(i.toList == j.toList):=by
 rw [Bool.eq_iff_iff]
 cases i
 cases j
 simp
section
variable {X:Cx} {a b c:Expr} {ta tb tc:TE} {pos:Pos}
theorem y_q{pins:List (Addr×Obj)}{σ:St}{H:Hp}{s:Shared}{Q:VK}{k k':Bool}(I:Inv X pins σ H s)(q:Q (.bl k) H)(e:k=k'):EP X pins σ Q (.bool k') s:=by
 subst e
 exact ⟨.bl k,H,I,rfl,q⟩
theorem s_l:OpR X (compareOp .Eq) rEq:=by
 intro pins s σ H x y v u Q I rx ry h
 obtain ⟨hs,q⟩:=h
 cases x with
 | non =>
  cases rx
  cases y with
  | non=>cases ry;exact PySem.EqNone.eq_none_none (y_q I q (by simp))
  | bl j=>cases ry;exact PySem.EqNone.eq_none_bool (y_q I q (by simp))
  | int j=>obtain ⟨t',rfl⟩:=ry;exact PySem.EqNone.eq_none_int (y_q I q (by simp))
  | str j=>obtain ⟨t',rfl⟩:=ry;exact PySem.EqNone.eq_none_str (y_q I q (by simp))
  | _=>exact absurd (show false=true from hs) Bool.false_ne_true
 | bl i =>
  cases rx
  cases y with
  | non=>cases ry;exact PySem.EqNone.eq_bool_none (y_q I q (by simp))
  | bl j=>cases ry;exact eq_bool (y_q I q dec_bl)
  | str j=>obtain ⟨t',rfl⟩:=ry;exact PySem.EqMixed.eq_bool_str (y_q I q (by simp))
  | _=>exact absurd (show false=true from hs) Bool.false_ne_true
 | int i =>
  obtain ⟨t,rfl⟩:=rx
  cases y with
  | non=>cases ry;exact PySem.EqNone.eq_int_none (y_q I q (by simp))
  | int j=>obtain ⟨t',rfl⟩:=ry;exact eq_int (y_q I q h_c)
  | str j=>obtain ⟨t',rfl⟩:=ry;exact PySem.EqMixed.eq_int_str (y_q I q (by simp))
  | _=>exact absurd (show false=true from hs) Bool.false_ne_true
 | str i =>
  obtain ⟨t,rfl⟩:=rx
  cases y with
  | non=>cases ry;exact PySem.EqNone.eq_str_none (y_q I q (by simp))
  | bl j=>cases ry;exact PySem.EqMixed.eq_str_bool (y_q I q (by simp))
  | int j=>obtain ⟨t',rfl⟩:=ry;exact PySem.EqMixed.eq_str_int (y_q I q (by simp))
  | str j=>obtain ⟨t',rfl⟩:=ry;exact eq_str (y_q I q h_d)
  | _=>exact absurd (show false=true from hs) Bool.false_ne_true
 | byt i =>
  obtain ⟨t,rfl⟩:=rx
  cases y with
  | byt j=>obtain ⟨t',rfl⟩:=ry;exact PySem.W.eq_bytes (y_q I q h_b)
  | _=>exact absurd (show false=true from hs) Bool.false_ne_true
 | _=>cases y<;>exact absurd (show false=true from hs) Bool.false_ne_true
theorem g_j:OpR X (compareOp .NotEq) rNe:=by
 intro pins s σ H x y v u Q I rx ry h
 obtain ⟨hs,q⟩:=h
 cases x with
 | non =>
  cases rx
  cases y with
  | non=>cases ry;exact PySem.EqNone.ne_none_none (y_q I q (by simp))
  | bl j=>cases ry;exact PySem.EqNone.ne_none_bool (y_q I q (by simp))
  | int j=>obtain ⟨t',rfl⟩:=ry;exact PySem.EqNone.ne_none_int (y_q I q (by simp))
  | str j=>obtain ⟨t',rfl⟩:=ry;exact PySem.EqNone.ne_none_str (y_q I q (by simp))
  | _=>exact absurd (show false=true from hs) Bool.false_ne_true
 | bl i =>
  cases rx
  cases y with
  | non=>cases ry;exact PySem.EqNone.ne_bool_none (y_q I q (by simp))
  | bl j=>cases ry;exact ne_bool (y_q I q (congrArg not dec_bl))
  | str j=>obtain ⟨t',rfl⟩:=ry;exact PySem.EqMixed.ne_bool_str (y_q I q (by simp))
  | _=>exact absurd (show false=true from hs) Bool.false_ne_true
 | int i =>
  obtain ⟨t,rfl⟩:=rx
  cases y with
  | non=>cases ry;exact PySem.EqNone.ne_int_none (y_q I q (by simp))
  | int j=>obtain ⟨t',rfl⟩:=ry;exact ne_int (y_q I q (congrArg not h_c))
  | str j=>obtain ⟨t',rfl⟩:=ry;exact PySem.EqMixed.ne_int_str (y_q I q (by simp))
  | _=>exact absurd (show false=true from hs) Bool.false_ne_true
 | str i =>
  obtain ⟨t,rfl⟩:=rx
  cases y with
  | non=>cases ry;exact PySem.EqNone.ne_str_none (y_q I q (by simp))
  | bl j=>cases ry;exact PySem.EqMixed.ne_str_bool (y_q I q (by simp))
  | int j=>obtain ⟨t',rfl⟩:=ry;exact PySem.EqMixed.ne_str_int (y_q I q (by simp))
  | str j=>obtain ⟨t',rfl⟩:=ry;exact ne_str (y_q I q (congrArg not h_d))
  | _=>exact absurd (show false=true from hs) Bool.false_ne_true
 | byt i =>
  obtain ⟨t,rfl⟩:=rx
  cases y with
  | byt j=>obtain ⟨t',rfl⟩:=ry;exact PySem.W.ne_bytes (y_q I q (congrArg not h_b))
  | _=>exact absurd (show false=true from hs) Bool.false_ne_true
 | _=>cases y<;>exact absurd (show false=true from hs) Bool.false_ne_true
theorem l_e:OpR X (compareOp .Lt) (rI0 fun i j=>.bl (decide (i<j))):=opB0 fun _ _ _ _ _ _ _ q=>lt_int q
theorem i_h:OpR X (compareOp .LtE) (rI0 fun i j=>.bl (decide (i<=j))):=opB0 fun _ _ _ _ _ _ _ q=>le_int q
theorem op_gt:OpR X (compareOp .Gt) (rI0 fun i j=>.bl (decide (j<i))):=opB0 fun _ _ _ _ _ _ _ q=>gt_int q
theorem op_ge:OpR X (compareOp .GtE) (rI0 fun i j=>.bl (decide (j<=i))):=opB0 fun _ _ _ _ _ _ _ q=>ge_int q
theorem k_g:OpR X (compareOp .Is) (fun x y H Q=>y = .non/\Q (.bl (decide (x = .non))) H):=by
 intro pins s σ H x y v u Q I rx ry h
 obtain ⟨rfl,q⟩:=h
 cases ry
 refine is_none_gen (y_q I q ?_)
 cases x<;>first
  | (cases rx;rfl)
  | (obtain ⟨t,rfl⟩:=rx;rfl)
theorem p_i:OpR X (compareOp .IsNot) (fun x y H Q=>y = .non/\Q (.bl (!decide (x = .non))) H):=by
 intro pins s σ H x y v u Q I rx ry h
 obtain ⟨rfl,q⟩:=h
 cases ry
 refine isnot_none_gen (y_q I q ?_)
 cases x<;>first
  | (cases rx;rfl)
  | (obtain ⟨t,rfl⟩:=rx;rfl)
theorem nomark(b:Expr){op:CmpOp}(h:op ≠ .In:=by decide)(h2:op ≠ .NotIn:=by decide):behindInMarks op b=false:=by
 have e1:(op == CmpOp.In)=false:=by cases op<;>first | rfl | exact absurd rfl h
 have e2:(op == CmpOp.NotIn)=false:=by cases op<;>first | rfl | exact absurd rfl h2
 cases b<;>simp [behindInMarks,e1,e2]
theorem u_k{op:CmpOp}{r:R2}(ho:OpR X (compareOp op) r)(ha:PE X a ta)(hb:PE X b tb)(hm:behindInMarks op b=false):PE X (.Compare a [op] [b] pos) (tOp r ta tb):=by
 intro pins s σ H Q I h
 exact wpAny_Compare1 (binT ha hb I h fun v u s2 x y H2 I2 rx ry q=>ho pins s2 σ H2 x y v u Q I2 rx ry q) hm
def tTest(t:TE):TT:=fun σ H Q=>t σ H fun x H'=>∃ k,x = .bl k/\Q k H'
theorem z_z{op:CmpOp}{r:R2}(ho:OpR X (compareOp op) r)(ha:PE X a ta)(hb:PE X b tb)(hm:behindInMarks op b=false):PT X (.Compare a [op] [b] pos) (tTest (tOp r ta tb)):=by
 intro pins s σ H Q I h
 refine wpAny_isTrue_Compare1 (thn (ha pins s σ H _ I h) fun v s1 ⟨x,H1,I1,r1,q1⟩=>thn (hb pins s1 σ H1 _ I1 q1) fun u s2 ⟨y,H2,I2,r2,q2⟩ =>
  thn (ho pins s2 σ H2 x y v u _ I2 r1 r2 q2) fun c s3 ⟨z,H3,I3,r3,k,e,q3⟩=>?_) hm
 subst e
 cases r3
 exact wpAny_truthy_bool ⟨H3,I3,q3⟩
def tChain(r r':R2)(ta tb tc:TE):TE:=fun σ H Q=>ta σ H fun x H1=>tb σ H1 fun y H2=>r x y H2 fun z H3=>∃ k,z = .bl k /\
 (if k=true then tc σ H3 fun w' H4=>r' y w' H4 Q else Q (.bl false) H3)
theorem pe_chain{op op':CmpOp}{r r':R2}(ho:OpR X (compareOp op) r)(ho':OpR X (compareOp op') r')(ha:PE X a ta)(hb:PE X b tb)(hc:PE X c tc)
  (hm:lastMarks [op,op'] [b,c]=false:=by with_unfolding_all rfl):PE X (.Compare a [op,op'] [b,c] pos) (tChain r r' ta tb tc):=by
 intro pins s σ H Q I h
 refine Compare_chain (thn (ha pins s σ H _ I h) fun v s1 ⟨x,H1,I1,r1,q1⟩=>chain_link (thn (hb pins s1 σ H1 _ I1 q1) fun u s2 ⟨y,H2,I2,r2,q2⟩ =>
  thn (ho pins s2 σ H2 x y v u _ I2 r1 r2 q2) fun d s3 ⟨z,H3,I3,r3,k,e,q3⟩=>?_)) hm
 subst e
 cases r3
 refine wpAny_truthy_bool ?_
 cases k with
 | false=>exact ite_ff ⟨.bl false,H3,I3,rfl,q3⟩
 | true=>exact ite_tt (chain_last (thn (hc pins s3 σ H3 _ I3 q3) fun w' s4 ⟨z',H4,I4,r4,q4⟩=>ho' pins s4 σ H4 y z' u w' Q I4 r2 r4 q4))
def TruV(K:PySem.W.Frag)(x:V)(H:Hp)(k:Bool):Prop :=
 match x with
 | .non=>k=false
 | .bl b=>k=b
 | .int i=>k=(i != 0)
 | .str y=>y.length<=sizeLine/\k=((y.length:Int) != 0)
 | .byt y=>y.size<=sizeLine/\k=((y.size:Int) != 0)
 | .ref p=>(∃ xs,SqL K H p xs/\k = !xs.isEmpty)\/(∃ xs,SqT K H p xs/\k = !xs.isEmpty)\/∃ kvs,H p=some (.dK kvs)/\k = !kvs.isEmpty
 | _=>False
theorem j_r{κ:Type}{kvs:List (κ×V)}{vs:List (κ×Value)}(r:KV kvs vs):(!vs.isEmpty) = !kvs.isEmpty:=by
 cases r<;>rfl
theorem q_k{xs:List V}{its:List Value}(r:Vals xs its):(!its.toArray.isEmpty) = !xs.isEmpty:=by
 cases r<;>simp
theorem line63:(sizeLine:Nat)<2^63:=by rw [sizeLine_eq];decide
theorem tru_ok:TruR X (fun x H Q=>∃ k,TruV X.K x H k/\Q k H):=by
 intro pins s σ H x v Q I rx h
 obtain ⟨k,e,q⟩:=h
 have hl:=line63
 have hs:sizeLine=16777216:=sizeLine_eq
 cases x with
 | non =>
  cases rx
  have e':k=false:=e
  subst e'
  exact truthy_none ⟨H,I,q⟩
 | bl b =>
  cases rx
  have e':k=b:=e
  subst e'
  exact wpAny_truthy_bool ⟨H,I,q⟩
 | int i =>
  obtain ⟨t,rfl⟩:=rx
  have e':k=(i != 0):=e
  subst e'
  exact PySem.P.truthy_int ⟨H,I,q⟩
 | str y =>
  obtain ⟨t,rfl⟩:=rx
  obtain ⟨hy,e'⟩:y.length<=sizeLine/\k=((y.length:Int) != 0):=e
  subst e'
  exact PySem.P.truthy_str (by lia) ⟨H,I.tok _,q⟩
 | byt y =>
  obtain ⟨t,rfl⟩:=rx
  obtain ⟨hy,e'⟩:y.size<=sizeLine/\k=((y.size:Int) != 0):=e
  subst e'
  exact PySem.W.truthy_bytes (by lia) ⟨H,I.tok _,q⟩
 | ref p =>
  cases rx
  have e':(∃ xs,SqL X.K H p xs/\k = !xs.isEmpty)\/(∃ xs,SqT X.K H p xs/\k = !xs.isEmpty)\/∃ kvs,H p=some (.dK kvs)/\k = !kvs.isEmpty:=e
  rcases e' with ⟨xs,hx,e'⟩ | ⟨xs,hx,e'⟩ | ⟨kvs,hx,e'⟩
  ·subst e'
   obtain ⟨its,r,pl,hz⟩:=I.list hx
   have hlen:=r.length
   exact wpAny_truthy_list pl.isList (by simp only [List.size_toArray];lia) ⟨H,I.tok _,by rw [q_k r];exact q⟩
  ·subst e'
   obtain ⟨its,r,pl,hz⟩:=I.tuple hx
   have hlen:=r.length
   exact truthy_tuple pl (by simp only [List.size_toArray];lia) ⟨H,I.tok _,by rw [q_k r];exact q⟩
  ·subst e'
   obtain ⟨hz,hS,vs,r,m⟩:kvs.length<=sizeLine/\(p == sysModules)=false/\∃ vs,KV kvs vs/\s.heap.DictOf (mixKind X.prog X.w) p vs:=I.hok p _ hx
   have hlen:kvs.length=vs.length:=Paired.length r
   exact wpAny_truthy_dict hS m (by lia) ⟨H,I.tok _,by rw [j_r r];exact q⟩
 | _=>exact (show False from e).elim
theorem k_l(ha:PE X a ta)(he:∀ whole,isTrue a X.env whole=(do let v <-whole;standAt a.pos;holding [v] (truthy v))) :
  PT X a (fun σ H Q=>ta σ H fun x H'=>∃ k,TruV X.K x H' k/\Q k H'):=by
 intro pins s σ H Q I h
 exact isTrue_plain (thn (ha pins s σ H _ I h) fun v s1 ⟨x,H1,I1,r1,q1⟩=>tru_ok pins s1 σ H1 x v Q I1 r1 q1) (he _)
theorem vals1{x:V}{us:List Value}(r:Vals [x] us):∃ u,us=[u]/\RelV x u:=by
 cases r with
 | cons r1 r2=>cases r2;exact ⟨_,rfl,r1⟩
theorem vals2{x y:V}{us:List Value}(r:Vals [x,y] us):∃ u w',us=[u,w']/\RelV x u/\RelV y w':=by
 cases r with
 | cons r1 r2 =>
  cases r2 with
  | cons r3 r4=>cases r4;exact ⟨_,_,rfl,r1,r3⟩
theorem l_u:CallR X (.builtin "abs") (fun xs H Q=>∃ i,xs=[.int i]/\Q (.int (if i<0 then -i else i)) H):=by
 intro pins s σ H xs us Q I r h
 obtain ⟨i,rfl,q⟩:=h
 obtain ⟨u,rfl,t,rfl⟩:=vals1 r
 exact call_abs_int fun u tk=>⟨.int (if i<0 then -i else i),H,I.tok _,⟨_,rfl⟩,q⟩
theorem o_d(hc:X.calm=true):CallR X (.builtin "max") (fun xs H Q=>∃ i j,xs=[.int i,.int j]/\Q (.int (if j > i then j else i)) H):=by
 intro pins s σ H xs us Q I r h
 obtain ⟨i,j,rfl,q⟩:=h
 obtain ⟨u,w',rfl,⟨t,rfl⟩,⟨t',rfl⟩⟩:=vals2 r
 refine max_two_ints (I.ok.hd hc) fun h' tk k=>⟨_,H,I.kept k,?_,q⟩
 by_cases hj:j > i
 ·rw [if_pos hj,if_pos hj];exact ⟨_,rfl⟩
 ·rw [if_neg hj,if_neg hj];exact ⟨_,rfl⟩
theorem o_e(hc:X.calm=true):CallR X (.builtin "min") (fun xs H Q=>∃ i j,xs=[.int i,.int j]/\Q (.int (if j<i then j else i)) H):=by
 intro pins s σ H xs us Q I r h
 obtain ⟨i,j,rfl,q⟩:=h
 obtain ⟨u,w',rfl,⟨t,rfl⟩,⟨t',rfl⟩⟩:=vals2 r
 refine min_two_ints (I.ok.hd hc) fun h' tk k=>⟨_,H,I.kept k,?_,q⟩
 by_cases hj:j<i
 ·rw [if_pos hj,if_pos hj];exact ⟨_,rfl⟩
 ·rw [if_neg hj,if_neg hj];exact ⟨_,rfl⟩
theorem i_u:CallR X (.type "int") (fun xs H Q=>(∃ i,xs=[.int i]/\Q (.int i) H)\/∃ k,xs=[.bl k]/\Q (.int (if k then 1 else 0)) H):=by
 intro pins s σ H xs us Q I r h
 rcases h with ⟨i,rfl,q⟩ | ⟨k,rfl,q⟩
 ·obtain ⟨u,rfl,t,rfl⟩:=vals1 r
  exact call_int_int ⟨.int i,H,I,⟨_,rfl⟩,q⟩
 ·obtain ⟨u,rfl,r1⟩:=vals1 r
  cases r1
  exact call_int_bool ⟨.int (if k then 1 else 0),H,I.tok _,⟨_,rfl⟩,q⟩
def LenV(K:PySem.W.Frag)(x:V)(H:Hp)(n:Nat):Prop :=
 match x with
 | .str y=>y.length<=sizeLine/\n=y.length
 | .byt y=>y.size<=sizeLine/\n=y.size
 | .ref p=>(∃ xs,SqL K H p xs/\n=xs.length)\/∃ xs,SqT K H p xs/\n=xs.length
 | _=>False
theorem u_x:CallR X (.builtin "len") (fun xs H Q=>∃ x n,xs=[x]/\LenV X.K x H n/\Q (.int n) H):=by
 intro pins s σ H xs us Q I r h
 obtain ⟨x,n,rfl,e,q⟩:=h
 obtain ⟨u,rfl,rx⟩:=vals1 r
 have hl:=line63
 have hs:sizeLine=16777216:=sizeLine_eq
 cases x with
 | str y =>
  obtain ⟨t,rfl⟩:=rx
  obtain ⟨hy,e'⟩:y.length<=sizeLine/\n=y.length:=e
  subst e'
  exact len_str (by lia) ⟨.int _,H,I.tok _,⟨_,rfl⟩,q⟩
 | byt y =>
  obtain ⟨t,rfl⟩:=rx
  obtain ⟨hy,e'⟩:y.size<=sizeLine/\n=y.size:=e
  subst e'
  exact PySem.W.len_bytes (by lia) ⟨.int _,H,I.tok _,⟨_,rfl⟩,q⟩
 | ref p =>
  cases rx
  have e':(∃ xs,SqL X.K H p xs/\n=xs.length)\/∃ xs,SqT X.K H p xs/\n=xs.length:=e
  rcases e' with ⟨xs,hx,e'⟩ | ⟨xs,hx,e'⟩
  ·subst e'
   obtain ⟨its,r',pl,hz⟩:=I.list hx
   have hlen:=r'.length
   exact Calls.call_len_list pl.isList (by simp only [List.size_toArray];lia) ⟨.int xs.length,H,I.tok _,⟨_,by simp only [List.size_toArray];rw [hlen]⟩,q⟩
  ·subst e'
   obtain ⟨its,r',pl,hz⟩:=I.tuple hx
   have hlen:=r'.length
   exact len_tuple pl (by simp only [List.size_toArray];lia) ⟨.int xs.length,H,I.tok _,⟨_,by simp only [List.size_toArray];rw [hlen]⟩,q⟩
 | _=>exact (show False from e).elim
end
open PySem PySem.Spec PyProof.Rows
structure ObjM(h:Heap)(x dx C:Addr)(mA:Str->Option Value):Prop where
 obj:h.get? x=some (instObj C dx)
 ns:h.Ns1 dx mA
 ne:dx≠x
theorem h_u{h:Heap}{dx:Addr}{mA:Str->Option Value}(n:h.Ns1 dx mA):∃ od,h.get? dx=some od/\∀ name,lookIn name od=some (mA name):=by
 obtain ⟨o,es,ep,ho,hd,hk,_,hm⟩:=n
 refine ⟨o,ho,fun name=>?_⟩
 have e:=hm name
 unfold nsFind findBy at e
 rw [<-Array.find?_toList] at e
 unfold lookIn
 rw [hd]
 dsimp only
 split
 ·rename_i y q
  rw [q] at e
  exact congrArg some e
 ·rename_i q
  rw [q] at e
  have a:es.toList.any (·.refKey)=false:=by
   rw [List.any_eq_false]
   intro y hy
   obtain ⟨z,t,hkey⟩:=hk y (Array.mem_toList_iff.mp hy)
   simp [DictEntry.refKey,hkey]
  have a':¬es.toList.any (·.refKey)=true:=by rw [a];exact Bool.false_ne_true
  rw [if_neg a']
  exact congrArg some e
theorem ObjM.look{h:Heap}{x dx C:Addr}{mA:Str->Option Value}(I:ObjM h x dx C mA):∃ od,PySem.W.InstAt h x (instObj C dx) C (some od)/\∀ name,lookIn name od=some (mA name) :=
 let ⟨od,ho,hl⟩:=h_u I.ns
 ⟨od,⟨I.obj,rfl,rfl,ho⟩,hl⟩
section
variable {prog:Program} {w:World} {A:Around} {E:Value->Shared->Prop} {s:Shared} {K:PySem.W.Frag} {x dx C f:Addr} {mA:Str->Option Value} {name:Str} {v:Value}
theorem get_map{expr:Bool}{Q:Value->Shared->Prop}(X:K.In s.heap)(I:ObjM s.heap x dx C mA)(hg:plainGet K C name=true)(hh:hasDictIn K C=true)
  (ha:findIn K (.ref C) name=some none) (hv:mA name=some v) (hv':PySem.W.handedIn v=true) (h:Q v { s with toks:=s.toks+1 }) :
  wpAny (model prog w) A (getAttr (.ref x) name expr) Q E s:=by
 obtain ⟨od,J,hl⟩:=I.look
 exact PySem.W.get_value X J (plainGet_of hg).1 (PySem.W.findObj_own hh ha rfl (by rw [hl,hv])) hv' h
theorem get_meth{pl:Sem Bool}{Q:Value×List Value->Shared->Prop}(X:K.In s.heap)(I:ObjM s.heap x dx C mA)(hg:plainGet K C name=true)
  (hf:findIn K (.ref C) name=some (some (.ref f))) (ht:isFn K (.ref f)=true) (hv:mA name=none) (h:Q (.ref f,[.ref x]) s) :
  wpAny (model prog w) A (getMethod (.ref x) name pl) Q E s:=by
 obtain ⟨od,J,hl⟩:=I.look
 exact PySem.W.method_fn X J (plainGet_of hg).1 (plainGet_of hg).2 hf (beq_iff_eq.mp ht) (by show (lookIn name od).map (·.isSome)=some false;rw [hl,hv];rfl) h
theorem set_map{ns:List Str}{Q:Unit->Shared->Prop}(X:K.In s.heap)(I:ObjM s.heap x dx C mA)
  (hs:findIn K (.ref C) "__setattr__" = some (some (.builtin "object.__setattr__"))) (hp:plainOver K C=true) (ht:takerIn K C name=some none) (hh:hasDictIn K C=true)
  (hw:PySem.Within mA ns) (hsz:ns.length<=sizeLine)
  (h:∀ h',ObjM h' x dx C (fun y=>if y=name then some v else mA y)->Heap.SameBut dx s.heap h'->Q () { s with heap:=h',toks:=s.toks+2 }) :
  wpAny (model prog w) A (setAttr (.ref x) name v) Q E s:=by
 obtain ⟨od,J,hl⟩:=I.look
 refine PySem.W.set_plain X J hs (PySem.W.osa_open (s:={ s with toks:=s.toks+1 }) (r:=none) X J hp ht fun b=>?_)
 obtain ⟨cd,hc,hd'⟩:=PySem.W.any_some hh
 have hx:s.heap.get? x=some ⟨.ref C,some dx,.plain,#[]⟩:=I.obj
 refine wpAny_bind (wpAny_pure (wpAny_bind (wpAny_bind (wpAny_loadPart hx (wpAny_bind (PySem.W.Looks.here (s:={ s with toks:=s.toks+1 }) (PySem.W.looks_clsIn X hc) ?_))))))
 rw [hd']
 refine wpAny_pure (a:=some dx) (wpAny_bind (wpAny_pure (wpAny_bind ?_)))
 refine wpAny_nsSet1 (s:={ s with toks:=s.toks+1 }) I.ns fun h' hn2 hs2=>?_
 obtain ⟨oD,esD,epD,hoD,hdD,hcD⟩:=hn2.count (PySem.Within.cons name v hw)
 refine wpAny_bind (wpAny_lookBehind hoD (by rw [hdD];exact pastItsLine_dict (Nat.le_trans hcD (by rw [List.length_cons];lia))) ?_)
 exact wpAny_pure (h _ ⟨(hs2.2 _ (Ne.symm I.ne)).trans I.obj,hn2,I.ne⟩ hs2)
theorem make_map{R:Result->Shared->Prop}{vs:List Value}{kw:List (Str×Value)}(X:K.In s.heap)(hm:makesIn K C=true)
  (hi:findIn K (.ref C) "__init__" = some (some (.ref f))) (hf:PySem.W.typeIn K (.ref f)=some (.type "function"))
  (h:codeAny (model prog w) (A.under (.builtin "type.__call__" ⟨.ref C::vs,kw⟩)) (.call (.ref f) ⟨.ref (s.heap.objs.size+1)::vs,kw⟩) (PySem.W.InitBack (s.heap.objs.size+1) R)
   { s with heap:=(s.heap.push emptyDict).push (instObj C s.heap.objs.size) }) :
  codeAny (model prog w) A (.call (.ref C) ⟨vs,kw⟩) R s:=by
 obtain ⟨hh,g,d,t,os⟩:=s
 exact PySem.W.make_core (PySem.W.makes_of X hm) (PySem.W.looks_findIn X hi) (fun self=>PySem.W.bind_fn X self hf) (.inl rfl) h
end
def putF(f:Str)(v:V):List (Str×V)->List (Str×V)
 | []=>[(f,v)]
 | (g,x)::r=>if g=f then (g,v)::r else (g,x)::putF f v r
theorem r_h(f g:Str)(v:V):∀ fs:List (Str×V),(putF f v fs).lookup g=if g=f then some v else fs.lookup g
 | []=>by
  show List.lookup g [(f,v)]=_
  by_cases h:g=f
  ·have hb:(g == f)=true:=beq_iff_eq.mpr h
   simp only [List.lookup,hb,if_pos h]
  ·have hb:(g == f)=false:=beq_eq_false_iff_ne.mpr h
   simp only [List.lookup,hb,if_neg h]
 | (k,x)::r=>by
  have ih:=r_h f g v r
  rw [show putF f v ((k,x)::r)=(if k=f then (k,v)::r else (k,x)::putF f v r) from rfl]
  by_cases hk:k=f
  ·rw [if_pos hk]
   by_cases h:g=k
   ·have hb:(g == k)=true:=beq_iff_eq.mpr h
    simp only [List.lookup,hb,if_pos (h.trans hk)]
   ·have hb:(g == k)=false:=beq_eq_false_iff_ne.mpr h
    simp only [List.lookup,hb,if_neg (fun e:g=f=>h (e.trans hk.symm))]
  ·rw [if_neg hk]
   by_cases h:g=k
   ·have hb:(g == k)=true:=beq_iff_eq.mpr h
    simp only [List.lookup,hb,if_neg (fun e:g=f=>hk (h.symm.trans e))]
   ·have hb:(g == k)=false:=beq_eq_false_iff_ne.mpr h
    simp only [List.lookup,hb]
    exact ih
theorem r_e(f:Str)(v:V):∀ fs:List (Str×V),f∈(putF f v fs).map (·.1)/\∀ g,g∈fs.map (·.1)->g∈(putF f v fs).map (·.1)
 | []=>⟨by simp [putF],fun g h=>by simp at h⟩
 | (k,x)::r=>by
  obtain ⟨i1,i2⟩:=r_e f v r
  rw [show putF f v ((k,x)::r)=(if k=f then (k,v)::r else (k,x)::putF f v r) from rfl]
  by_cases hk:k=f
  ·rw [if_pos hk]
   subst hk
   exact ⟨by simp,fun g h=>by simpa using h⟩
  ·rw [if_neg hk]
   refine ⟨?_,fun g h=>?_⟩
   ·rw [List.map_cons]
    exact List.mem_cons_of_mem _ i1
   ·rw [List.map_cons] at h ⊢
    rcases List.mem_cons.mp h with e | e
    ·exact List.mem_cons.mpr (.inl e)
    ·exact List.mem_cons_of_mem _ (i2 g e)
theorem r_g(f:Str)(v:V):∀ fs:List (Str×V),(putF f v fs).length<=fs.length+1
 | []=>by simp [putF]
 | (k,x)::r=>by
  have ih:=r_g f v r
  rw [show putF f v ((k,x)::r)=(if k=f then (k,v)::r else (k,x)::putF f v r) from rfl]
  by_cases hk:k=f
  ·rw [if_pos hk,List.length_cons,List.length_cons];lia
  ·rw [if_neg hk,List.length_cons,List.length_cons];lia
theorem RelO.some_of{v:V}{o:Option Value}(r:RelO (some v) o):∃ u,o=some u/\RelV v u:=by
 cases o with
 | none=>exact (show False from r).elim
 | some u=>exact ⟨u,rfl,r⟩
theorem RelO.none_of{o:Option Value}(r:RelO none o):o=none:=by
 cases o with
 | none=>rfl
 | some u=>exact (show False from r).elim
theorem h_k{v:V}{u:Value}(r:RelV v u):PySem.W.handedIn u=true:=by
 cases v with
 | non=>cases (show u=Value.none from r);rfl
 | bl b=>cases (show u=Value.bool b from r);rfl
 | int i=>obtain ⟨t,e⟩:=(show ∃ t,u=Value.int i t from r);cases e;rfl
 | str x=>obtain ⟨t,e⟩:=(show ∃ t,u=Value.str x t from r);cases e;rfl
 | byt b=>obtain ⟨t,e⟩:=(show ∃ t,u=Value.bytes b t from r);cases e;rfl
 | flt b=>obtain ⟨t,e⟩:=(show ∃ t,u=Value.float b t from r);cases e;rfl
 | ref a=>cases (show u=Value.ref a from r);rfl
 | ty n=>cases (show u=Value.type n from r);rfl
section
variable {P:Program} {w:World} {H H':Hp} {h h':Heap} {a C dx:Addr} {fs fs':List (Str×V)}
theorem r_c(hok:HOk P w H h)(e:H a=some (.ins C dx fs)):∃ mA,ObjM h a dx C mA/\(∀ f,RelO (fs.lookup f) (mA f))/\PySem.Within mA (fs.map (·.1))/\fs.length<=1000/\H dx=some (.own a):=by
 obtain ⟨d,z,ne,ob,mA,n,r,q⟩:=(show ObjOk P w H h a (.ins C dx fs) from hok a _ e)
 exact ⟨mA,⟨ob,n,ne⟩,r,q,z,d⟩
end
structure Cls(K:PySem.W.Frag)(C:Addr):Prop where
 pg:plainGet K C Str.empty=true
 hd:hasDictIn K C=true
 po:plainOver K C=true
 sa:findIn K (.ref C) "__setattr__" = some (some (.builtin "object.__setattr__"))
theorem Cls.get{K:PySem.W.Frag}{C:Addr}(c:Cls K C)(f:Str):plainGet K C f=true:=c.pg
def NoAttr(K:PySem.W.Frag)(C:Addr)(f:Str):Prop:=findIn K (.ref C) f=some none
theorem NoAttr.taker{K:PySem.W.Frag}{C:Addr}{f:Str}(n:NoAttr K C f):takerIn K C f=some none:=by
 unfold takerIn
 rw [show findIn K (.ref C) f=some none from n]
 rfl
structure Meth(K:PySem.W.Frag)(C:Addr)(m:Str)(f:Addr):Prop where
 at_:findIn K (.ref C) m=some (some (.ref f))
 fn:isFn K (.ref f)=true
 kp:keepIn K (.ref f)=true
section
variable {X:Cx} {pins:List (Addr×Obj)} {σ:St} {H:Hp} {s:Shared} {a C dx:Addr} {fs:List (Str×V)} {f:Str} {v:V} {A:Around} {E:Value->Shared->Prop}
theorem j_o{b:Bool}{Q:Value->Shared->Prop}(I:Inv X pins σ H s)(e:H a=some (.ins C dx fs))(c:Cls X.K C)(n:NoAttr X.K C f)(l:fs.lookup f=some v)
  (h:∀ u s',Inv X pins σ H s'->RelV v u->Q u s'):wpAny (model X.prog X.w) A (getAttr (.ref a) f b) Q E s:=by
 obtain ⟨mA,O,r,_,_,_⟩:=r_c I.hok e
 obtain ⟨u,hu,ru⟩:=RelO.some_of (v:=v) (o:=mA f) (by rw [<-l];exact r f)
 exact get_map I.kIn O (c.get f) c.hd n hu (h_k ru) (h u _ (I.tok _) ru)
theorem j_p{m:Str}{g:Addr}{pl:Sem Bool}{Q:Value×List Value->Shared->Prop}(I:Inv X pins σ H s)(e:H a=some (.ins C dx fs))(c:Cls X.K C)(k:Meth X.K C m g)(l:fs.lookup m=none)
  (h:Q (.ref g,[.ref a]) s):wpAny (model X.prog X.w) A (getMethod (.ref a) m pl) Q E s:=by
 obtain ⟨mA,O,r,_,_,_⟩:=r_c I.hok e
 have hn:mA m=none:=RelO.none_of (by rw [<-l];exact r m)
 exact get_meth I.kIn O (c.get m) k.at_ k.fn hn h
theorem i_m{y:V}{u:Value}{Q:Unit->Shared->Prop}(I:Inv X pins σ H s)(e:H a=some (.ins C dx fs))(c:Cls X.K C)(n:NoAttr X.K C f)(hl:fs.length<1000)(ry:RelV y u)
  (h:∀ s',Inv X pins σ (upd H a (.ins C dx (putF f y fs))) s'->Q () s'):wpAny (model X.prog X.w) A (setAttr (.ref a) f u) Q E s:=by
 obtain ⟨mA,O,r,wi,_,ho⟩:=r_c I.hok e
 have hz:(fs.map (·.1)).length<=sizeLine:=by rw [List.length_map,sizeLine_eq];lia
 refine set_map I.kIn O c.sa c.po n.taker c.hd wi hz fun h' O' sb=>h _ ?_
 have hd:∃ o,h'.get? dx=some o:=let ⟨o,_,_,e',_⟩:=O'.ns;⟨o,e'⟩
 refine I.write (x:=a) (e:=dx) (by rw [e];exact True.intro) (.inr ho) (fun b q hb z=>(sb.2 b hb).trans z) hd ?_
 refine ⟨by rw [z_r O.ne];exact ho,?_,O.ne,O'.obj,_,O'.ns,fun g=>?_,fun g hg=>?_⟩
 ·have:=r_g f y fs;lia
 ·show RelO ((putF f y fs).lookup g) (if g=f then some u else mA g)
  rw [r_h]
  by_cases q:g=f
  ·rw [if_pos q,if_pos q];exact ry
  ·rw [if_neg q,if_neg q];exact r g
 ·by_cases q:g=f
  ·rw [q];exact (r_e f y fs).1
  ·refine (r_e f y fs).2 g (wi g fun z=>hg ?_)
   show (if g=f then some u else mA g)=none
   rw [if_neg q];exact z
theorem Inv.made(I:Inv X pins σ H s):Inv X pins σ (upd (upd H s.heap.objs.size (.own (s.heap.objs.size+1))) (s.heap.objs.size+1) (.ins C s.heap.objs.size []))
  { s with heap:=(s.heap.push emptyDict).push (instObj C s.heap.objs.size) }:=by
 have e1:(s.heap.push emptyDict).get? s.heap.objs.size=some emptyDict:=Heap.get?_push_size s.heap rfl
 have e2:((s.heap.push emptyDict).push (instObj C s.heap.objs.size)).get? (s.heap.objs.size+1)=some (instObj C s.heap.objs.size):=by
  have:=Heap.get?_push_size (s.heap.push emptyDict) (o:=instObj C s.heap.objs.size) rfl
  rwa [Heap.size_push] at this
 have e3:(s.heap.push emptyDict).Ns s.heap.objs.size (fun _=>none):=⟨emptyDict,#[],_,e1,rfl,(fun e he=>absurd he (by simp)),fun _=>rfl⟩
 have I1:=I.laid (a:=s.heap.objs.size) (o:=.own (s.heap.objs.size+1)) (h':=s.heap.push emptyDict) (t':=s.toks) (fun b u q=>Heap.get?_push_of_some _ q) (Nat.le_refl _) ⟨_,e1⟩
 refine I1.laid (a:=s.heap.objs.size+1) (o:=.ins C s.heap.objs.size []) (t':=s.toks) (fun b u q=>Heap.get?_push_of_some _ q) (Nat.le_of_eq (Heap.size_push _ _)) ?_
 have ne:s.heap.objs.size≠s.heap.objs.size+1:=Nat.ne_of_lt (Nat.lt_succ_self _)
 refine ⟨by rw [z_r ne,z_d],Nat.zero_le _,ne,e2,fun _=>none,(Heap.Ns1.of_empty e3).at fun o q=>Heap.get?_push_of_some _ q,fun _=>True.intro,fun y hy=>absurd rfl hy⟩
theorem attr_of{prog:Program}{w:World}{env:Env}{e:Expr}{f:Str}{pos:Pos}{s:Shared}{Q:Value->Shared->Prop}(hb:attributeBase e f env (eval e env)=eval e env)
  (h:wpAny (model prog w) A (eval e env) (fun o s₁=>wpAny (model prog w) A (getAttr o f true) Q E s₁) E s):wpAny (model prog w) A (eval (.Attribute e f pos) env) Q E s :=
 Attribute_any_ h (by rw [arm_eval_Attribute,hb])
end
def tFld(K:PySem.W.Frag)(ta:TE)(f:Str):TE:=fun σ H Q=>ta σ H fun x H1=>∃ a C dx fs v,x = .ref a/\H1 a=some (.ins C dx fs)/\Cls K C/\NoAttr K C f/\fs.lookup f=some v/\Q v H1
def sFld(K:PySem.W.Frag)(ta tv:TE)(f:Str):TS:=fun D σ H=>tv σ H fun y H1=>ta σ H1 fun x H2=>∃ a C dx fs,x = .ref a/\H2 a=some (.ins C dx fs)/\Cls K C/\NoAttr K C f/\fs.length<1000 /\
 D.nx σ (upd H2 a (.ins C dx (putF f y fs)))
section
variable {X:Cx} {o e value:Expr} {f:Str} {pos pos' tpos:Pos} {ta tv:TE}
theorem pe_fld(he:PE X e ta)(hb:attributeBase e f X.env (eval e X.env)=eval e X.env):PE X (.Attribute e f pos) (tFld X.K ta f):=by
 intro pins s σ H Q I h
 refine attr_of hb (thn (he pins s σ H _ I h) fun u s1 ⟨x,H1,I1,rx,a,C,dx,fs,v,ex,ea,c,n,l,q⟩=>?_)
 subst ex
 obtain rfl:u=Value.ref a:=rx
 exact j_o I1 ea c n l fun u' s2 I2 ru=>⟨v,H1,I2,ru,q⟩
theorem ps_fld(ha:PE X o ta)(hv:PE X value tv)(hs:swapsWith value (some (.Attribute o f pos')) pos.line X.env=pure false):PS X (.Assign [.Attribute o f pos'] value pos) (sFld X.K ta tv f):=by
 intro pins s σ H D I h
 refine plainObj_wpAny_Assign_Attribute (thn (hv pins s σ H _ I h) fun u s1 ⟨y,H1,I1,ry,q⟩=>thn (ha pins s1 σ H1 _ I1 q) fun ov s2 ⟨x,H2,I2,rx,a,C,dx,fs,ex,ea,c,n,l,q2⟩=>?_) hs
 subst ex
 obtain rfl:ov=Value.ref a:=rx
 exact i_m I2 ea c n l ry fun s3 I3=>⟨σ,_,I3,q2⟩
end
section
variable {X:Cx} {pins:List (Addr×Obj)} {σ:St} {H:Hp} {s:Shared} {A:Around} {E:Value->Shared->Prop} {Q:Value->Shared->Prop} {c:Value} {b:Bool}
inductive TyOf (K:PySem.W.Frag) (H:Hp):V->Value->Prop where
 | non:TyOf K H .non (.type "NoneType")
 | bl (x:Bool):TyOf K H (.bl x) (.type "bool")
 | int (i:Int):TyOf K H (.int i) (.type "int")
 | str (x:Str):TyOf K H (.str x) (.type "str")
 | flt (x:UInt64):TyOf K H (.flt x) (.type "float")
 | lst {a:Addr} {xs:List V} (e:H a=some (.lst xs)):TyOf K H (.ref a) (.type "list")
 | frz {a:Addr} {o:Obj} {xs:List V} (e:H a=some (.frz o (.lst xs))):TyOf K H (.ref a) (.type "list")
 | tup {a:Addr} {xs:List V} (e:H a=some (.tup xs)):TyOf K H (.ref a) (.type "tuple")
 | dK {a:Addr} {kvs:List (Key×V)} (e:H a=some (.dK kvs)):TyOf K H (.ref a) (.type "dict")
 | dT {a:Addr} {kvs:List (List Key×V)} (e:H a=some (.dT kvs)):TyOf K H (.ref a) (.type "dict")
 | ins {a C dx:Addr} {fs:List (Str×V)} (e:H a=some (.ins C dx fs)) (cl:Cls K C) (ha:findIn K (.ref C) "__class__" = some (some (.builtin "object.__class__")))
   (hn:PySem.W.specialIn K (.builtin "object.__class__") "__get__" = some (some (.builtin "getset_descriptor.__get__"))) (htk:PySem.W.takesIn K (.builtin "object.__class__")=some true)
   (hm:PySem.W.mroIn K C (.type "object")=some true):TyOf K H (.ref a) (.ref C)
theorem h_m{x:V}{u t:Value}(I:Inv X pins σ H s)(rx:RelV x u)(ty:TyOf X.K H x t)(e:PySem.W.kitOne X.K t c=some b)(h:∀ tk,Q (.bool b) { s with toks:=tk }) :
  wpAny (model X.prog X.w) A (call (.builtin "isinstance") [u,c]) Q E s:=by
 cases ty with
 | non=>cases (show u=Value.none from rx);exact kia_one PySem.W.kitx_none I.kIn True.intro e (fun z=>nomatch z) h
 | bl y=>cases (show u=Value.bool y from rx);exact kia_one PySem.W.kitx_bool I.kIn True.intro e (fun z=>nomatch z) h
 | int i=>obtain ⟨t,q⟩:=(show ∃ t,u=Value.int i t from rx);cases q;exact kia_one PySem.W.kitx_int I.kIn True.intro e (fun z=>nomatch z) h
 | str y=>obtain ⟨t,q⟩:=(show ∃ t,u=Value.str y t from rx);cases q;exact kia_one PySem.W.kitx_str I.kIn True.intro e (fun z=>nomatch z) h
 | flt y=>obtain ⟨t,q⟩:=(show ∃ t,u=Value.float y t from rx);cases q;exact kia_one PySem.W.kitx_float I.kIn True.intro e (fun z=>nomatch z) h
 | @lst a xs ea =>
  cases (show u=Value.ref a from rx)
  obtain ⟨_,_,n,_,h1⟩:=(show ObjOk X.prog X.w H s.heap a (.lst xs) from I.hok a _ ea)
  exact kia_one kitx_list I.kIn ⟨_,h1,rfl⟩ e (fun z=>nomatch z) h
 | @frz a ob xs ea =>
  cases (show u=Value.ref a from rx)
  obtain ⟨_,_,_,n,_,h1⟩:=(show ObjOk X.prog X.w H s.heap a (.frz ob (.lst xs)) from I.hok a _ ea)
  exact kia_one kitx_list I.kIn ⟨_,h1,rfl⟩ e (fun z=>nomatch z) h
 | @tup a xs ea =>
  cases (show u=Value.ref a from rx)
  obtain ⟨_,_,_,p⟩:=(show ObjOk X.prog X.w H s.heap a (.tup xs) from I.hok a _ ea)
  obtain ⟨o,h1,h2,_⟩:=p
  exact kia_one PySem.W.kitx_tuple I.kIn ⟨o,h1,h2⟩ e (fun z=>nomatch z) h
 | @dK a kvs ea =>
  cases (show u=Value.ref a from rx)
  obtain ⟨_,_,vs,_,p⟩:=(show ObjOk X.prog X.w H s.heap a (.dK kvs) from I.hok a _ ea)
  obtain ⟨o,es,ep,h1,h2,_⟩:=p
  exact kia_one kitx_dict I.kIn ⟨o,h1,h2.1⟩ e (fun z=>nomatch z) h
 | @dT a kvs ea =>
  cases (show u=Value.ref a from rx)
  obtain ⟨_,_,xs,_,o,es,ep,h1,h2,_⟩:=(show ObjOk X.prog X.w H s.heap a (.dT kvs) from I.hok a _ ea)
  exact kia_one kitx_dict I.kIn ⟨o,h1,h2.1⟩ e (fun z=>nomatch z) h
 | @ins a C dx fs ea cl ha hn htk hm =>
  cases (show u=Value.ref a from rx)
  obtain ⟨mA,O,_⟩:=r_c I.hok ea
  obtain ⟨od,J,_⟩:=O.look
  exact kia_one (PySem.W.kitx_own (cl.get _) cl.hd ha hn htk hm) I.kIn J e (fun z=>nomatch z) h
end
open PySem PySem.Spec PyProof.Rows
structure Room(k:Nat)(A:Around):Prop where
 hd:A.handled=none
 dp:A.depth+3*k+5<recursionLimit
 un:A.units+16*k+200<cLine
theorem Room.mono{j k:Nat}{A:Around}(r:Room k A)(h:j<=k):Room j A:=⟨r.hd,by have:=r.dp;lia,by have:=r.un;lia⟩
theorem Room.deeper{k:Nat}{A:Around}(r:Room (k+1) A)(env:Env):Room k (A.deeper env) :=
 ⟨r.hd,by have:=r.dp;show A.depth+1+3*k+5<_;lia,by have:=r.un;show A.units+3+16*k+200<_;lia⟩
theorem j_v{A:Around}{C:Addr}{us:List Value}{kw:List (Str×Value)}:(A.under (.builtin "type.__call__" ⟨.ref C::us,kw⟩)).depth=A.depth+1:=by
 first | rfl | simp [Around.under,Code.weight,Code.isCreation,Code.isGuard,Code.isCaller,Code.frames,Code.isFrame,guardIds]
theorem j_w{A:Around}{C:Addr}{us:List Value}{kw:List (Str×Value)}:(A.under (.builtin "type.__call__" ⟨.ref C::us,kw⟩)).units=A.units+1:=by
 first | rfl | simp [Around.under,Code.cUnits,Code.frames,Code.isFrame]
theorem Room.make{k:Nat}{A:Around}(r:Room (k+1) A)(C:Addr)(us:List Value)(kw:List (Str×Value)):Room k (A.under (.builtin "type.__call__" ⟨.ref C::us,kw⟩)) :=
 ⟨r.hd,by have:=r.dp;rw [j_v];lia,by have:=r.un;rw [j_w];lia⟩
theorem Room.depth{k:Nat}{A:Around}(r:Room k A):A.depth<recursionLimit:=by have:=r.dp;lia
theorem Room.units{k:Nat}{A:Around}(r:Room k A):A.units+64<cLine:=by have:=r.un;lia
def tNil:TA:=fun _ H Q=>Q [] H
def tCons(ta:TE)(tr:TA):TA:=fun σ H Q=>ta σ H fun x H1=>tr σ H1 fun xs H2=>Q (x::xs) H2
section
variable {X:Cx} {e:Expr} {es:List Expr} {te:TE} {t:TA} {pos:Pos}
theorem z_b:PA X [] tNil:=fun _ _ _ _ H Q I h=>Calls.spliced_nil ⟨[],H,I,.nil,h⟩
theorem z_a(ha:PE X e te)(hr:PA X es t)(hs:starEach (e::es) X.env=(false,eval e X.env)::starEach es X.env:=by rfl):PA X (e::es) (tCons te t):=by
 intro pos pins s σ H Q I h
 rw [hs]
 show wpAny _ _ (spliced ((false,eval e X.env)::backTo pos (starEach es X.env))) _ _ s
 refine Calls.spliced_cons (thn (ha pins s σ H _ I h) fun u s1 ⟨x,H1,I1,r1,q1⟩=>?_)
 exact thn (hr pos pins s1 σ H1 _ I1 q1) fun us s2 ⟨xs,H2,I2,r2,q2⟩=>⟨x::xs,H2,I2,.cons r1 r2,q2⟩
def tTup(t:TA):TE:=fun σ H Q=>t σ H fun xs H1=>xs.length<=sizeLine/\∀ p,H1 p=none->Q (.ref p) (upd H1 p (.tup xs))
def tLst(t:TA):TE:=fun σ H Q=>t σ H fun xs H1=>xs.length<=sizeLine/\∀ p,H1 p=none->Q (.ref p) (upd H1 p (.lst xs))
theorem y_e{x1}(h:PA X es t):PE X (.Tuple es x1 pos) (tTup t):=by
 intro pins s σ H Q I hq
 refine wpAny_Tuple_spliced (thn (h pos pins s σ H _ I hq) fun us s1 ⟨xs,H1,I1,r,z,q⟩=>⟨by rw [<-r.length];exact z,?_⟩)
 have hf:H1 s1.heap.objs.size=none:=I1.hok.fresh (Nat.le_refl _)
 refine ⟨.ref s1.heap.objs.size,upd H1 s1.heap.objs.size (.tup xs),I1.laid (t':=s1.toks) (fun b u e=>Heap.get?_push_of_some _ e) (Nat.le_refl _) ?_,rfl,q _ hf⟩
 exact ⟨z,us,r,⟨_,Heap.get?_push_size _ rfl,rfl,_,rfl⟩⟩
theorem x_i(h:PA X es t):PE X (.List es pos) (tLst t):=by
 intro pins s σ H Q I hq
 refine wpAny_List_spliced (thn (h pos pins s σ H _ I hq) fun us s1 ⟨xs,H1,I1,r,z,q⟩=>⟨by rw [<-r.length];exact z,?_⟩)
 have hf:H1 s1.heap.objs.size=none:=I1.hok.fresh (Nat.le_refl _)
 refine ⟨.ref s1.heap.objs.size,upd H1 s1.heap.objs.size (.lst xs),I1.laid (t':=s1.toks) (fun b u e=>Heap.get?_push_of_some _ e) (Nat.le_refl _) ?_,rfl,q _ hf⟩
 exact ⟨z,us,0,r,Heap.get?_push_size _ rfl⟩
end
abbrev Sp:=List V->Hp->VK->XK->Prop
abbrev CXT:=List Env->Hp->Shared->XK->Value->Shared->Prop
structure Env0(P:Program)(w:World)(K:PySem.W.Frag)(mg:Str->Option Value)(base:Heap)(A:Around)(outer:List Env)(s:Shared)(H:Hp):Prop where
 frames:A.frames=some outer
 gd:A.guards=some []
 mod:Mod K mg base
 bs:∀ b o,base.get? b=some o->s.heap.get? b=some o/\H b=none
 bsz:base.objs.size<=s.heap.objs.size
 funs:s.heap.FunFrames base outer
 frf:∀ b∈frs outer,H b=none
 hok:HOk P w H s.heap
 bare:AllBare s.gens
def CE(outer:List Env)(P:Program)(w:World)(H:Hp)(s:Shared)(Q:VK)(u:Value)(s':Shared):Prop :=
 ∃ v H',s'.os=s.os/\AllBare s'.gens/\Un (frs outer) [] H H' s.heap s'.heap/\HOk P w H' s'.heap/\RelV v u/\Q v H'
def CR(CX:CXT)(outer:List Env)(P:Program)(w:World)(H:Hp)(s:Shared)(Q:VK)(E:XK)(r:Result)(s':Shared):Prop :=
 match r with
 | .ok (.ret u)=>CE outer P w H s Q u s'
 | .ok _=>False
 | .error e=>CX outer H s E e s'
structure FnOk(P:Program)(w:World)(K:PySem.W.Frag)(mg:Str->Option Value)(base:Heap)(CX:CXT)(k:Nat)(f:Addr)(fd:FuncData)(ps:List Str)(sp:Sp):Prop where
 len:∀ vs H Q E,sp vs H Q E->vs.length=ps.length
 run:∀ (A:Around) (outer:List Env) (s:Shared) (H:Hp) (args:Args) (us:List Value) (vs:List V) (Q:VK) (E:XK),Room k A->Env0 P w K mg base A outer s H->BindsTo s fd args (ps.zip us)->Vals vs us->sp vs H Q E ->
  codeAny (model P w) A (.call (.ref f) args) (CR CX outer P w H s Q E) s
theorem FnOk.imp{P:Program}{w:World}{K:PySem.W.Frag}{mg:Str->Option Value}{base:Heap}{CX:CXT}{k:Nat}{f:Addr}{fd:FuncData}{ps:List Str}{sp sp':Sp}(F:FnOk P w K mg base CX k f fd ps sp)
  (h:∀ vs H Q E,sp' vs H Q E->sp vs H Q E):FnOk P w K mg base CX k f fd ps sp' :=
 ⟨fun vs H Q E q=>F.len vs H Q E (h _ _ _ _ q),fun A outer s H args us vs Q E hr he hb hv hs=>F.run A outer s H args us vs Q E hr he hb hv (h _ _ _ _ hs)⟩
theorem Env0.make{P:Program}{w:World}{K:PySem.W.Frag}{mg:Str->Option Value}{base:Heap}{A:Around}{outer:List Env}{s:Shared}{H:Hp}(e:Env0 P w K mg base A outer s H)(C:Addr)(us:List Value)(kw:List (Str×Value)) :
  Env0 P w K mg base (A.under (.builtin "type.__call__" ⟨.ref C::us,kw⟩)) outer s H:=⟨by first | exact e.frames | (simpa [Around.under,Code.envs,Code.isFrame,pushEnvs] using e.frames),by first | exact e.gd | (simpa [Around.under,Code.isGuard,guardIds] using e.gd),e.mod,e.bs,e.bsz,e.funs,e.frf,e.hok,e.bare⟩
section
variable {X:Cx} {pins:List (Addr×Obj)} {σ:St} {H:Hp} {s s':Shared}
theorem Inv.env0(I:Inv X pins σ H s):Env0 X.prog X.w X.K X.mg X.base X.A X.stack s H :=
 ⟨I.ok.frames,I.ok.gd,I.ok.mod,I.bs,Nat.le_trans I.ok.bsz I.sz,I.stack,I.stkFree,I.hok,I.bare⟩
theorem Inv.after{Q:VK}{u:Value}(I:Inv X pins σ H s)(h:CE X.stack X.prog X.w H s Q u s'):EP X pins σ Q u s':=by
 obtain ⟨v,H',os,bare,un,hok,r,q⟩:=h
 obtain ⟨hh,g,d,t,os'⟩:=s'
 obtain rfl:os'=s.os:=os
 exact ⟨v,H',I.call (h':=hh) (g':=g) (d':=d) (t':=t) (ch:=[]) un hok bare (fun b z=>absurd z (by simp)),r,q⟩
end
def tCall(sp:Sp)(dvs:List V)(E:XK)(t:TA):TE:=fun σ H Q=>t σ H fun vs H1=>sp (vs++dvs) H1 Q E
def tMeth(C:Addr)(m:Str)(sp:Sp)(dvs:List V)(E:XK)(ta:TE)(t:TA):TE:=fun σ H Q=>ta σ H fun x H1=>∃ a dx fs,x = .ref a/\H1 a=some (.ins C dx fs)/\fs.lookup m=none /\
 t σ H1 fun vs H2=>sp (x::(vs++dvs)) H2 Q E
def tMake(C:Addr)(sp:Sp)(dvs:List V)(E:XK)(t:TA):TE:=fun σ H Q=>t σ H fun vs H1=>∀ x dx,H1 x=none->H1 dx=none->dx≠x ->
 sp (.ref x::(vs++dvs)) (upd (upd H1 dx (.own x)) x (.ins C dx [])) (fun v H2=>v = .non/\Q (.ref x) H2) E
def Binds(K:PySem.W.Frag)(fd:FuncData)(ps:List Str)(ds:List Value):Prop :=
 ∀ (s:Shared) (us:List Value),K.In s.heap->(us++ds).length=ps.length->BindsTo s fd ⟨us,[]⟩ (ps.zip (us++ds))
theorem Binds.all{K:PySem.W.Frag}{fd:FuncData}{ps:List Str}(h:∀ us:List Value,us.length=ps.length->bindArgs fd ⟨us,[]⟩=pure (ps.zip us)):Binds K fd ps []:=fun s us _ hl=>by
 rw [List.append_nil] at hl ⊢
 exact .of_eq (h us hl)
def Passes(CX:CXT)(X:Cx)(E:XK):Prop:=∀ (pins:List (Addr×Obj)) (σ:St) (H:Hp) (s:Shared) (e:Value) (s':Shared),Inv X pins σ H s->CX X.stack H s E e s'->X.xe e s'
section
variable {X:Cx} {CX:CXT} {k:Nat} {f C:Addr} {fd:FuncData} {ps:List Str} {sp:Sp} {dvs:List V} {ds:List Value} {E:XK} {x m:Str} {p pos apos:Pos} {e o:Expr} {es:List Expr} {ta:TE} {t:TA}
theorem g_z{pins:List (Addr×Obj)}{σ:St}{H:Hp}{s:Shared}{Q:VK}{us:List Value}{vs:List V}(F:FnOk X.prog X.w X.K X.mg X.base CX k f fd ps sp)(hr:Room k X.A)(hb:Binds X.K fd ps ds)(hd:Vals dvs ds)(hx:Passes CX X E)
  (I:Inv X pins σ H s) (r:Vals vs us) (h:sp (vs++dvs) H Q E):wpAny (model X.prog X.w) X.A (call (.ref f) us) (EP X pins σ Q) X.xe s:=by
 have r2:Vals (vs++dvs) (us++ds):=r.append hd
 have hl:(us++ds).length=ps.length:=by rw [<-r2.length];exact F.len _ _ _ _ h
 refine wpAny_call (codeAny_mono (F.run X.A X.stack s H ⟨us,[]⟩ (us++ds) (vs++dvs) Q E hr I.env0 (hb s us I.kIn hl) r2 h) fun r s' hq=>?_)
 cases r with
 | error e=>exact hx pins σ H s e s' I hq
 | ok fl =>
  cases fl with
  | ret u=>exact I.after hq
  | next=>exact False.elim hq
  | brk=>exact False.elim hq
  | cont=>exact False.elim hq
theorem z_j(F:FnOk X.prog X.w X.K X.mg X.base CX k f fd ps sp)(hr:Room k X.A)(hg:Gl X x)(hm:X.mg x=some (.ref f))(hk:keepIn X.K (.ref f)=true)(hb:Binds X.K fd ps ds)(hd:Vals dvs ds)(hx:Passes CX X E)
  (ha:PA X (e::es) t) (hdb:(x == ("__debug__" : Str))=false:=by decide) (he:starEach (e::es) X.env=(false,eval e X.env)::starEach es X.env:=by rfl) (hpl:(backTo pos (starEach es X.env)).any (·.1)=false:=by rfl) :
  PE X (.Call (.Name x p) (e::es) [] pos) (tCall sp dvs E t):=by
 intro pins s σ H Q I h
 refine wpAny_Call_Name_kw (r_f I hg hm ?_ hdb)
 refine callWith_K (h₀:=X.base) I.ok.mod.kin hk (thn (ha pos pins s σ H _ I h) fun us s1 ⟨vs,H1,I1,r,q⟩=>⟨I1.kIn,?_⟩) he hpl
 exact g_z F hr hb hd hx I1 r q
theorem x_o{pl:Sem Bool}(he:PE X o ta)(c:Cls X.K C)(hm:Meth X.K C m f)(F:FnOk X.prog X.w X.K X.mg X.base CX k f fd ps sp)(hr:Room k X.A)(hb:Binds X.K fd ps ds)(hd:Vals dvs ds)(hx:Passes CX X E)(ha:PA X (e::es) t)
  (hst:starEach (e::es) X.env=(false,eval e X.env)::starEach es X.env:=by rfl) (hpl:(backTo pos (starEach es X.env)).any (·.1)=false:=by rfl)
  (ht:eval (.Call (.Attribute o m apos) (e::es) [] pos) X.env=(do
   let ov <-eval o X.env
   standAt apos.atName
   let (f,first) <-holding [ov] (getMethod ov m pl)
   callWith pos f first (backTo pos (starEach (e::es) X.env)) (backToKw pos (keywordEach [] X.env))):=by rfl) :
  PE X (.Call (.Attribute o m apos) (e::es) [] pos) (tMeth C m sp dvs E ta t):=by
 intro pins s σ H Q I h
 refine PySem.W.methodCall_KW (pl:=pl) (thn (he pins s σ H _ I h) fun u s1 ⟨x,H1,I1,rx,a,dx,fs,ex,ea,l,q⟩=>?_) ht
 subst ex
 obtain rfl:u=Value.ref a:=rx
 refine j_p I1 ea c hm l ?_
 refine callWith_K (first:=[.ref a]) (h₀:=X.base) I.ok.mod.kin hm.kp (thn (ha pos pins s1 σ H1 _ I1 q) fun us s2 ⟨vs,H2,I2,r,q2⟩=>⟨I2.kIn,?_⟩) hst hpl
 exact g_z (us:=.ref a::us) (vs:=.ref a::vs) F hr hb hd hx I2 (.cons rfl r) q2
structure Mk(K:PySem.W.Frag)(C f:Addr):Prop where
 makes:makesIn K C=true
 init:findIn K (.ref C) "__init__" = some (some (.ref f))
 fn:isFn K (.ref f)=true
 kp:keepIn K (.ref C)=true
theorem run_make{pins:List (Addr×Obj)}{σ:St}{H:Hp}{s:Shared}{Q:VK}{us:List Value}{vs:List V}(M:Mk X.K C f)(F:FnOk X.prog X.w X.K X.mg X.base CX k f fd ps sp)(hr:Room (k+1) X.A)(hb:Binds X.K fd ps ds)(hd:Vals dvs ds)
  (hx:Passes CX X E) (I:Inv X pins σ H s) (r:Vals vs us)
  (h:∀ x dx,H x=none->H dx=none->dx≠x->sp (.ref x::(vs++dvs)) (upd (upd H dx (.own x)) x (.ins C dx [])) (fun v H2=>v = .non/\Q (.ref x) H2) E) :
  wpAny (model X.prog X.w) X.A (call (.ref C) us) (EP X pins σ Q) X.xe s:=by
 have hq:=h (s.heap.objs.size+1) s.heap.objs.size (I.hok.fresh (Nat.le_succ _)) (I.hok.fresh (Nat.le_refl _)) (Nat.ne_of_lt (Nat.lt_succ_self _))
 have I2:=Inv.made (C:=C) I
 have r2:Vals (V.ref (s.heap.objs.size+1)::(vs++dvs)) (Value.ref (s.heap.objs.size+1)::(us++ds)):=.cons rfl (r.append hd)
 have hl:(Value.ref (s.heap.objs.size+1)::us++ds).length=ps.length:=by
  have e:=r2.length
  rw [F.len _ _ _ _ hq] at e
  exact e.symm
 refine wpAny_call (make_map (f:=f) I.kIn M.makes M.init (beq_iff_eq.mp M.fn) (codeAny_mono (F.run _ X.stack _ _ ⟨Value.ref (s.heap.objs.size+1)::us,[]⟩ (Value.ref (s.heap.objs.size+1)::(us++ds)) _ _ E (hr.make C us [])
  (I2.env0.make C us []) (hb _ (Value.ref (s.heap.objs.size+1)::us) I2.kIn hl) r2 hq) fun r s' hq'=>?_))
 cases r with
 | error e=>exact hx pins σ _ _ e s' I2 hq'
 | ok fl =>
  cases fl with
  | ret u =>
   obtain ⟨v,H',I3,rv,ev,q3⟩:=I2.after hq'
   subst ev
   exact ⟨rv,⟨V.ref (s.heap.objs.size+1),H',I3,rfl,q3⟩⟩
  | next=>exact False.elim hq'
  | brk=>exact False.elim hq'
  | cont=>exact False.elim hq'
theorem pe_make(M:Mk X.K C f)(F:FnOk X.prog X.w X.K X.mg X.base CX k f fd ps sp)(hr:Room (k+1) X.A)(hg:Gl X x)(hm:X.mg x=some (.ref C))(hb:Binds X.K fd ps ds)(hd:Vals dvs ds)(hx:Passes CX X E)
  (ha:PA X (e::es) t) (hdb:(x == ("__debug__" : Str))=false:=by decide) (he:starEach (e::es) X.env=(false,eval e X.env)::starEach es X.env:=by rfl) (hpl:(backTo pos (starEach es X.env)).any (·.1)=false:=by rfl) :
  PE X (.Call (.Name x p) (e::es) [] pos) (tMake C sp dvs E t):=by
 intro pins s σ H Q I h
 refine wpAny_Call_Name_kw (r_f I hg hm ?_ hdb)
 refine callWith_K (h₀:=X.base) I.ok.mod.kin M.kp (thn (ha pos pins s σ H _ I h) fun us s1 ⟨vs,H1,I1,r,q⟩=>⟨I1.kIn,?_⟩) he hpl
 exact run_make M F hr hb hd hx I1 r q
end
structure FnScope(N P:List Str)(sc:Scope):Prop where
 kind:sc.kind = .function
 co:sc.isCoroutine=false
 gen:sc.isGenerator=false
 nd:N.Nodup
 pre:N.take P.length=P
 par:∀ x∈P,sc.names.lookup x=some .local\/sc.names.lookup x=some .cell
 nofree:∀ y∈sc.names,y.2 ≠ .free
theorem o_b{kindOf:Str->Option NameKind}{x:Str}:∀ {binds:List (Str×Value)} {m:Str->Option Value},(∀ v,(x,v)∉binds)->bindL kindOf binds m x=m x
 | [],_,_=>rfl
 | (n,v)::r,m,h=>by
  unfold bindL
  rw [o_b fun w hw=>h w (List.mem_cons_of_mem _ hw)]
  split
  ·have:x≠n:=by rintro rfl;exact h v List.mem_cons_self
   simp [this]
  ·rfl
theorem p_z{kindOf:Str->Option NameKind}{x:Str}:∀ {binds:List (Str×Value)} {m:Str->Option Value},(∀ v,(x,v)∉binds)->bindC kindOf binds m x=m x
 | [],_,_=>rfl
 | (n,v)::r,m,h=>by
  unfold bindC
  rw [p_z fun w hw=>h w (List.mem_cons_of_mem _ hw)]
  split
  ·rfl
  ·have:x≠n:=by rintro rfl;exact h v List.mem_cons_self
   simp [this]
theorem o_a{kindOf:Str->Option NameKind}{x:Str}{v:Value}:∀ {P:List Str} {vs:List Value} {i:Nat} {m:Str->Option Value},P.Nodup->P[i]? = some x->vs[i]? = some v->kindOf x=some .local ->
  bindL kindOf (P.zip vs) m x=some v
 | [],_,_,_,_,h,_,_=>by simp at h
 | _::_,[],_,_,_,_,h,_=>by simp at h
 | p::P,w::vs,0,m,nd,h1,h2,hk=>by
  simp at h1 h2;subst h1;subst h2
  show bindL kindOf ((p,w)::P.zip vs) m p=_
  unfold bindL
  rw [o_b fun v hv=>(List.nodup_cons.mp nd).1 (List.of_mem_zip hv).1,if_pos hk]
  simp
 | p::P,w::vs,i+1,m,nd,h1,h2,hk=>by
  show bindL kindOf ((p,w)::P.zip vs) m x=_
  unfold bindL
  exact o_a (i:=i) (List.nodup_cons.mp nd).2 (by simpa using h1) (by simpa using h2) hk
theorem p_y{kindOf:Str->Option NameKind}{x:Str}{v:Value}:∀ {P:List Str} {vs:List Value} {i:Nat} {m:Str->Option Value},P.Nodup->P[i]? = some x->vs[i]? = some v->kindOf x≠some .local ->
  bindC kindOf (P.zip vs) m x=some v
 | [],_,_,_,_,h,_,_=>by simp at h
 | _::_,[],_,_,_,_,h,_=>by simp at h
 | p::P,w::vs,0,m,nd,h1,h2,hk=>by
  simp at h1 h2;subst h1;subst h2
  show bindC kindOf ((p,w)::P.zip vs) m p=_
  unfold bindC
  rw [p_z fun v hv=>(List.nodup_cons.mp nd).1 (List.of_mem_zip hv).1,if_neg hk]
  simp
 | p::P,w::vs,i+1,m,nd,h1,h2,hk=>by
  show bindC kindOf ((p,w)::P.zip vs) m x=_
  unfold bindC
  exact p_y (i:=i) (List.nodup_cons.mp nd).2 (by simpa using h1) (by simpa using h2) hk
def start(N:List Str)(vs:List V):St:=vs.map some++List.replicate (N.length-vs.length) none
def cxOf(CX:CXT)(P:Program)(w:World)(K:PySem.W.Frag)(mg:Str->Option Value)(base:Heap)(N:List Str)(qual:Str)(scope:Scope)(f:Addr)(cd:Value)(A:Around)(outer:List Env)(s:Shared)(H:Hp)(E:XK):Cx where
 prog:=P
 w:=w
 K:=K
 mg:=mg
 base:=base
 A:=A.deeper (envOfC qual scope s.heap.objs.size f cd)
 N:=N
 s₀:=s
 H₀:=H
 env:=envOfC qual scope s.heap.objs.size f cd
 outer:=outer
 stack:=envOfC qual scope s.heap.objs.size f cd::outer
 ex:=[]
 calm:=true
 fn:=fun _=>true
 pn:=[]
 xe:=fun e s'=>wpAny (model P w) (A.deeper (envOfC qual scope s.heap.objs.size f cd)) (leaving (envOfC qual scope s.heap.objs.size f cd) e) (fun _ s''=>CX outer H s E e s'') (fun e' s''=>CX outer H s E e' s'') s'
theorem l_v{sc:Scope}{n:Nat}{x:Str}(h:sc.names.lookup x=some .cell):∃ c,(cellsFrom n sc.names []).lookup x=some c:=by
 have q:=PySem.W.cellsFrom_some sc.names n [] (.inl h)
 exact Option.isSome_iff_exists.mp q
theorem h_l{CX:CXT}{P:Program}{w:World}{K:PySem.W.Frag}{mg:Str->Option Value}{base:Heap}{N ps:List Str}{qual:Str}{scope:Scope}{f:Addr}{cd:Value}{A:Around}{outer:List Env}{s s1:Shared}{H:Hp}{E:XK}{us:List Value}{vs:List V}
  (S:FnScope N ps scope) (hd:A.handled=none) (e0:Env0 P w K mg base A outer s H) (hl:vs.length=ps.length) (r:Vals vs us)
  (x:InCallC s s.heap.objs.size (bindL (envOfC qual scope s.heap.objs.size f cd).kindOf (ps.zip us) fun _=>none) (cellsFrom (s.heap.objs.size+1) scope.names []) (bindC (envOfC qual scope s.heap.objs.size f cd).kindOf (ps.zip us) fun _=>none) s1) :
  Inv (cxOf CX P w K mg base N qual scope f cd A outer s H E) [] (start N vs) H s1:=by
 have hpl:ps.length<=N.length:=by have:=congrArg List.length S.pre;rw [List.length_take] at this;lia
 obtain ⟨h1,tk,rfl,hk⟩:=x.done
 have noA:∀ b:Addr,b∉(cxOf CX P w K mg base N qual scope f cd A outer s H E).ex:=fun b z=>absurd (show b∈([]:List Addr) from z) (by simp)
 refine ⟨⟨e0.mod,S.kind,rfl,rfl,Nat.le_refl _,fun y z c h1 h2=>?_,fun y hy=>?_,fun y c _ h=>?_,fun _=>hd,Around.frames_deeper e0.frames,e0.gd,.inr ⟨rfl,rfl⟩,fun b z=>absurd z (noA b),e0.bs,e0.bsz,fun b _ _=>noA b,fun b z=>absurd z (noA b),e0.funs,e0.frf⟩,
  rfl,e0.bare,Un.kept hk,⟨_,x.toInCall.ns,fun i y v h1 h2 h3=>?_⟩,fun y c h=>⟨_,x.cell y c h⟩,e0.hok.fresh (Nat.le_refl _),fun y c h=>?_,fun p hp=>absurd (show p∈([]:List (Addr×Obj)) from hp) (by simp),e0.hok.kept hk,?_⟩
 ·exact name_of_addr x.apart (PySem.mem_of_lookup h1) (PySem.mem_of_lookup h2)
 ·have hy:scope.names.lookup y=some .cell\/scope.names.lookup y=some .free:=hy
  rcases hy with hy | hy
  ·exact l_v hy
  ·exact absurd rfl (S.nofree _ (PySem.mem_of_lookup hy))
 ·exact Nat.le_of_lt (x.above y c (PySem.mem_of_lookup h))
 ·have hi:i<vs.length:=by
   unfold start at h2
   by_cases hi:i<vs.length
   ·exact hi
   ·rw [List.getElem?_append_right (by simpa using hi)] at h2
    rw [List.getElem?_replicate] at h2
    split at h2<;>cases h2
  have ha:vs[i]? = some v:=by
   unfold start at h2
   rw [List.getElem?_append_left (by simpa using hi),List.getElem?_map] at h2
   cases e:vs[i]? with
   | none=>rw [e] at h2;cases h2
   | some a=>rw [e] at h2;cases h2;rfl
  obtain ⟨u,hu,rv⟩:=r.get ha
  have hp:ps[i]? = some y:=by
   rw [<-S.pre,List.getElem?_take_of_lt (by lia)];exact h1
  have ndP:ps.Nodup:=by rw [<-S.pre];exact S.nd.sublist (List.take_sublist _ _)
  refine ⟨u,rv,?_⟩
  rcases S.par y (List.mem_of_getElem? hp) with k | k
  ·exact .inl ⟨k,o_a ndP hp hu k⟩
  ·obtain ⟨c,e⟩:=l_v (n:=s.heap.objs.size+1) k
   refine .inr ⟨.inl k,c,e,?_⟩
   have q:=x.cell y c e
   rw [p_y ndP hp hu (by show scope.names.lookup y≠_;rw [k];decide)] at q
   exact q
 ·exact e0.hok.fresh (Nat.le_of_lt (x.above y c (PySem.mem_of_lookup h)))
 ·unfold start
  show _=N.length
  rw [List.length_append,List.length_map,List.length_replicate]
  lia
theorem fn_of{CX:CXT}{P:Program}{w:World}{K:PySem.W.Frag}{mg:Str->Option Value}{base:Heap}{k:Nat}{f:Addr}{name qual:Str}{params:Arguments}{body:List Stmt}{scope:Scope}{dV kV doc pm cdv ct oc:Value}{an od:Option Addr}
  {osl:Array (Option Value)} {N ps:List Str} {sp:Sp} (lk:K.lookup f=some ⟨oc,od,.func (fnOf name qual params body scope dV kV doc pm an cdv ct),osl⟩) (hcd:codeIn K cdv qual=true) (S:FnScope N ps scope)
  (len:∀ vs H Q E,sp vs H Q E->vs.length=ps.length)
  (hbody:∀ (A:Around) (outer:List Env) (s:Shared) (H:Hp) (vs:List V) (Q:VK) (E:XK),Room k (A.deeper (envOfC qual scope s.heap.objs.size f cdv))->sp vs H Q E ->
   ∃ t,PSs (cxOf CX P w K mg base N qual scope f cdv A outer s H E) body t/\t { nx:=fun _ H'=>Q .non H',rt:=Q } (start N vs) H) :
  FnOk P w K mg base CX (k+1) f (fnOf name qual params body scope dV kV doc pm an cdv ct) ps sp:=by
 refine ⟨len,fun A outer s H args us vs Q E hr e0 hb r hsp=>?_⟩
 have hl:=len _ _ _ _ hsp
 have KX:K.In s.heap:=e0.mod.kin.keeps fun b o e=>(e0.bs b o e).1
 have lim:s.heap.NoLimit:=e0.mod.nolimit.keeps fun b o e=>(e0.bs b o e).1
 have hkind:∀ y∈ps.zip us,scope.names.lookup y.1=some .local\/(scope.names.lookup y.1=some .cell/\((cellsFrom (s.heap.objs.size+1) scope.names []).lookup y.1).isSome=true):=fun ⟨n,v⟩ hy=>by
  rcases S.par n (List.of_mem_zip hy).1 with q | q
  ·exact .inl q
  ·exact .inr ⟨q,PySem.W.cellsFrom_some _ _ _ (.inl q)⟩
 refine codeAny_call_function hr.depth (KX _ _ lk) rfl S.co S.gen rfl (PySem.W.codeRec_of KX hcd) (hb _ _ _ _ ?_)
 refine wpAny_newFunctionEnv_cells S.kind hkind fun env he s1 x=>?_
 subst he
 refine ⟨lim.keeps x.toInCall.keep,codeAny_func ?_⟩
 obtain ⟨t,ht,hq⟩:=hbody A outer s H vs Q E (hr.deeper _) hsp
 have I:Inv (cxOf CX P w K mg base N qual scope f cdv A outer s H E) [] (start N vs) H s1:=h_l S hr.hd e0 hl r x
 refine wpAny_mono (ht [] s1 (start N vs) H _ I hq) (fun fl s' hs=>?_) fun e s' hs=>hs
 have fin:∀ {σ':St} {H':Hp} {v:V} {u:Value},Inv (cxOf CX P w K mg base N qual scope f cdv A outer s H E) [] σ' H' s'->RelV v u->Q v H'->CE outer P w H s Q u s' :=
  fun {σ' H' v u} J rv q=>⟨v,H',J.os,J.bare,J.base,J.hok,rv,q⟩
 cases fl with
 | ret u =>
  obtain ⟨v,σ',H',J,rv,q⟩:=hs
  exact fin J rv q
 | next =>
  obtain ⟨σ',H',J,q⟩:=hs
  exact fin (v:=V.non) (u:=Value.none) J rfl q
 | brk =>
  obtain ⟨_,_,_,q⟩:=hs
  exact False.elim q
 | cont =>
  obtain ⟨_,_,_,q⟩:=hs
  exact False.elim q
open PySem PySem.Spec PyProof.Rows
section
variable {X:Cx} {x:Str} {p pos:Pos} {e:Expr} {es:List Expr} {t:TA} {id T:String} {r:List V->Hp->VK->Prop}
def tCB(r:List V->Hp->VK->Prop)(t:TA):TE:=fun σ H Q=>t σ H fun vs H1=>r vs H1 Q
theorem z_m(hc:CallR X (.builtin id) r)(hg:Gl X x)(hm:X.mg x=none)(hv:bootBuiltins x=some (.builtin id))(ha:PA X (e::es) t)(hn:x ≠ "__name__" := by decide)(hdb:(x == ("__debug__" : Str))=false:=by decide)
  (he:starEach (e::es) X.env=(false,eval e X.env)::starEach es X.env:=by rfl) (hpl:(backTo pos (starEach es X.env)).any (·.1)=false:=by rfl):PE X (.Call (.Name x p) (e::es) [] pos) (tCB r t):=by
 intro pins s σ H Q I h
 refine wpAny_Call_Name_kw (t_f I hg hm hv ?_ hn hdb)
 exact PyProof.Rows.callWith_builtin1 (thn (ha pos pins s σ H _ I h) fun us s1 ⟨vs,H1,I1,r1,q1⟩=>hc pins s1 σ H1 vs us Q I1 r1 q1) he hpl
theorem x_b(hc:CallR X (.type T) r)(hg:Gl X x)(hm:X.mg x=none)(hv:bootBuiltins x=some (.type T))(ha:PA X (e::es) t)(hn:x ≠ "__name__" := by decide)(hdb:(x == ("__debug__" : Str))=false:=by decide)
  (he:starEach (e::es) X.env=(false,eval e X.env)::starEach es X.env:=by rfl) (hpl:(backTo pos (starEach es X.env)).any (·.1)=false:=by rfl):PE X (.Call (.Name x p) (e::es) [] pos) (tCB r t):=by
 intro pins s σ H Q I h
 refine wpAny_Call_Name_kw (t_f I hg hm hv ?_ hn hdb)
 exact PyProof.Rows.callWith_type1 (thn (ha pos pins s σ H _ I h) fun us s1 ⟨vs,H1,I1,r1,q1⟩=>hc pins s1 σ H1 vs us Q I1 r1 q1) he hpl
end
end L2
namespace HT
open PySem PyProof.Rows
section
open PySem.SeqAt
open PySem.AutoSeq1 (wpAny_loadPart')
open PySem.MeetsSeq PySem.MeetsSeq2 PySem.MeetsSeq3
end
section
variable {prog:Program} {w:World} {A:Around} {E:Value->Shared->Prop} {s:Shared}
theorem cat_tup{t b:Addr}{vs ws:List Value}{Q:Value->Shared->Prop}(ht:IsTup s.heap t vs.toArray)(hb:IsTup s.heap b ws.toArray)(hv:vs≠[])
  (h1:ws=[]->Q (.ref t) s) (h2:ws≠[]->Q (.ref s.heap.objs.size) { s with heap:=s.heap.push { cls:=.type "tuple",data:=.seq (vs++ws).toArray } })
  (hsz:vs.length+ws.length<=sizeLine):wpAny (model prog w) A (binaryOp .Add (.ref t) (.ref b)) Q E s:=by
 obtain ⟨⟨cls,dd,data,sl⟩,ho,hc,n,hd⟩:=id ht
 obtain ⟨⟨cls2,dd2,data2,sl2⟩,ho2,hc2,n2,hd2⟩:=id hb
 simp only at hc hd hc2 hd2
 subst hc hd hc2 hd2
 have e:vs.toArray++ws.toArray=(vs++ws).toArray:=by simp
 by_cases hw:ws=[]
 ·exact concat_meets ⟨_,ho,rfl⟩ ⟨_,ho2,rfl⟩ noFill_tuple_add seq_tuple_add PySem.F.slot_tuple_add PySem.F.entry_tuple_add (PySem.F.args_tuple_add_2 _ _)
   (tuple_addW1 t b vs.toArray ws.toArray n n2 dd dd2 sl sl2 (by simpa using hv) (by simp [hw])) ⟨ho,ho2,h1 hw⟩
 ·refine concat_meets ⟨_,ho,rfl⟩ ⟨_,ho2,rfl⟩ noFill_tuple_add seq_tuple_add PySem.F.slot_tuple_add PySem.F.entry_tuple_add (PySem.F.args_tuple_add_2 _ _)
   (tuple_addW2 t b vs.toArray ws.toArray n n2 dd dd2 sl sl2 (by simpa using hv) (by simpa using hw) (by rw [List.size_toArray,List.size_toArray];exact hsz)) ⟨ho,ho2,?_⟩
  rw [e]
  exact h2 hw
def sIx(n d:Nat):Option Int->Nat
 | none=>d
 | some v=>if v<0 then (v+(n:Int)).toNat else min v.toNat n
theorem sIx_none(n d:Nat):sIx n d none=d:=rfl
theorem sIx_nat(n d k:Nat):sIx n d (some (k:Int))=min k n:=by
 show (if (k:Int)<0 then ((k:Int)+(n:Int)).toNat else min (k:Int).toNat n)=min k n
 rw [if_neg (by lia),Int.toNat_natCast]
theorem sIx_le(n d:Nat)(hd:d<=n)(o:Option Int):sIx n d o<=n:=by
 cases o with
 | none=>exact hd
 | some v =>
  show (if v<0 then (v+(n:Int)).toNat else min v.toNat n)<=n
  by_cases hv:v<0
  ·rw [if_pos hv];lia
  ·rw [if_neg hv];exact Nat.min_le_right _ _
theorem i_x(v:Int)(n d:Nat):(if v<0 then max (v+(n:Int)) 0 else min v (n:Int))=((sIx n d (some v):Nat):Int):=by
 show (if v<0 then max (v+(n:Int)) 0 else min v (n:Int))=(((if v<0 then (v+(n:Int)).toNat else min v.toNat n):Nat):Int)
 by_cases hv:v<0
 ·simp only [if_pos hv];lia
 ·simp only [if_neg hv];lia
theorem j_d(lo hi:Option Int)(n:Nat):Builtin.Slice.sliceAdjust lo hi 1 (n:Int)=(((sIx n 0 lo:Nat):Int),((sIx n n hi:Nat):Int)):=by
 have h1:¬((1:Int)<0):=by lia
 unfold Builtin.Slice.sliceAdjust
 simp only [h1,if_false]
 refine Prod.ext ?_ ?_
 ·cases lo with
  | none=>rfl
  | some v=>exact i_x v n 0
 ·cases hi with
  | none=>rfl
  | some v=>exact i_x v n n
theorem i_i(i j:Nat):Builtin.Slice.slicePlaces (i:Int) (j:Int) 1=j-i:=by
 unfold Builtin.Slice.slicePlaces
 have h1:(1:Int) > 0:=by lia
 simp only [h1,if_true,Int.ediv_one]
 split<;>lia
theorem slicePart_{v:Value}{o:Option Int}{Q:Option Int->Shared->Prop}(p:IsPart v o)(h:Q o s):wpAny (model prog w) A (Builtin.Slice.slicePartIndex v) Q E s:=by
 cases p with
 | none=>exact slicePart_none h
 | int i t=>exact slicePart_int h
theorem u_h{sl:Addr}{vl vu:Value}{lo hi:Option Int}{n:Nat}{Q:Int×Int×Nat->Shared->Prop}(hs:s.heap.IsSliceOf sl vl vu .none)(pl:IsPart vl lo)(pu:IsPart vu hi)
  (h:Q (((sIx n 0 lo:Nat):Int),1,sIx n n hi-sIx n 0 lo) s):wpAny (model prog w) A (Builtin.Slice.sliceApplied (.ref sl) (pure (n:Int))) Q E s:=by
 obtain ⟨os,hos,hcs,hds⟩:=id hs
 unfold Builtin.Slice.sliceApplied Builtin.Slice.sliceFields
 refine wpAny_bind (wpAny_bind (wpAny_field hos hds (x:=vl) rfl (wpAny_bind (wpAny_field hos hds (x:=vu) rfl (wpAny_bind (wpAny_field hos hds (x:=.none) rfl (wpAny_pure ?_)))))))
 refine wpAny_bind (slicePart_none ?_)
 show wpAny _ _ (if ((1:Int) == 0)=true then _ else _) _ _ s
 rw [if_neg (by decide)]
 refine wpAny_bind (slicePart_ pl (wpAny_bind (slicePart_ pu (wpAny_bind (wpAny_pure ?_)))))
 show wpAny _ _ (match Builtin.Slice.sliceAdjust lo hi 1 (n:Int) with | (lo,hi)=>pure (lo,(1:Int),Builtin.Slice.slicePlaces lo hi 1)) _ _ s
 rw [j_d lo hi n]
 show wpAny _ _ (pure (((sIx n 0 lo:Nat):Int),(1:Int),Builtin.Slice.slicePlaces ((sIx n 0 lo:Nat):Int) ((sIx n n hi:Nat):Int) 1)) _ _ s
 rw [i_i]
 exact wpAny_pure h
theorem pick_gen(xs:Array Value)(i k:Nat):((List.range k).filterMap fun (m:Nat)=>xs[((i:Int)+(m:Int)*1).toNat]?).toArray=((xs.toList.drop i).take k).toArray:=by
 have e:(fun (m:Nat)=>xs[((i:Int)+(m:Int)*1).toNat]?)=fun m=>xs[i+m]? := by
  funext m
  have:((i:Int)+(m:Int)*1).toNat=i+m:=by lia
  rw [this]
 rw [e]
 have:=pick_run xs i k
 rw [List.filterMap_map] at this
 have e2:((fun x=>xs[x]?) ∘ fun x=>i+x)=fun m=>xs[i+m]? := rfl
 rw [e2] at this
 rw [this]
theorem getItem_tuple_cut{t sl:Addr}{items:Array Value}{vl vu:Value}{lo hi:Option Int}{Q:Value->Shared->Prop}(ht:IsTup s.heap t items)(hs:s.heap.IsSliceOf sl vl vu .none)(pl:IsPart vl lo)(pu:IsPart vu hi)
  (hw:¬(sIx items.size 0 lo=0/\sIx items.size items.size hi=items.size))
  (h:Q (.ref s.heap.objs.size) { s with heap:=s.heap.push { cls:=.type "tuple",data:=.seq ((items.toList.drop (sIx items.size 0 lo)).take (sIx items.size items.size hi-sIx items.size 0 lo)).toArray } })
  (hsz:items.size<=sizeLine):wpAny (model prog w) A (getItem (.ref t) (.ref sl)) Q E s:=by
 have htake:sizeOk (.seq ((items.toList.drop (sIx items.size 0 lo)).take (sIx items.size items.size hi-sIx items.size 0 lo)).toArray):=by
  show ((items.toList.drop (sIx items.size 0 lo)).take (sIx items.size items.size hi-sIx items.size 0 lo)).toArray.size<=sizeLine
  rw [List.size_toArray,List.length_take,List.length_drop,Array.length_toList]
  lia
 have hj:sIx items.size items.size hi<=items.size:=sIx_le _ _ (Nat.le_refl _) hi
 obtain ⟨os,hos,hcs,hds⟩:=id hs
 have hTs:s.TypeIs (.ref sl) "slice" := ⟨os,hos,hcs⟩
 unfold getItem
 try with_reducible refine wpAny_holding ?_
 first | refine wpAny_bind (wpAny_pure ?_) | skip
 refine wpAny_bind (wpAny_sequenceKey ht.typeIs (by decide) ?_)
 refine wpAny_bind (wpAny_callSpecial?_slot (name:=Str.ofString "__getitem__") ht.typeIs PyProof.Rows.slot_tuple_getitem
  (wpAny_call_entry PyProof.Rows.slot_tuple_getitem ht.typeIs entry_tuple_getitem ?_ (args_tuple_getitem _ _)))
 show wpAny _ _ (Builtin.Tuple.tupleItemsOf (.ref t) >>= _) _ _ s
 refine wpAny_bind (tupleItemsOf_ ht ?_)
 refine wpAny_bind (wpAny_typeOf hTs ?_)
 rw [if_pos (by decide)]
 refine wpAny_bind (u_h hs pl pu ?_)
 have hno:¬((((sIx items.size 0 lo:Nat):Int) == 0&&(1:Int) == 1&&(sIx items.size items.size hi-sIx items.size 0 lo) == items.size)=true):=by
  intro q
  rw [Bool.and_eq_true,Bool.and_eq_true] at q
  have q1:((sIx items.size 0 lo:Nat):Int)=0:=eq_of_beq q.1.1
  have q2:sIx items.size items.size hi-sIx items.size 0 lo=items.size:=eq_of_beq q.2
  exact hw ⟨by lia,by lia⟩
 show wpAny _ _ (if (((sIx items.size 0 lo:Nat):Int) == 0&&(1:Int) == 1&&(sIx items.size items.size hi-sIx items.size 0 lo) == items.size)=true then _ else _) _ _ s
 rw [if_neg hno,pick_gen]
 first
  | exact wpAny_bind (m:=Builtin.Tuple.tupleExact _) (wpAny_newObj_type (wpAny_pure ⟨_,rfl,wpAny_pure h⟩) htake)
  | exact wpAny_bind (m:=Builtin.Tuple.tupleExact _) (wpAny_newObj_type (wpAny_bind (wpAny_pure (wpAny_pure ⟨_,rfl,wpAny_pure h⟩))) htake)
  | exact wpAny_bind (wpAny_bind (m:=Builtin.Tuple.tupleExact _) (wpAny_newObj_type (wpAny_pure (wpAny_pure ⟨_,rfl,wpAny_pure h⟩)) htake))
  | exact wpAny_bind (wpAny_bind (m:=Builtin.Tuple.tupleExact _) (wpAny_newObj_type (wpAny_pure ⟨_,rfl,wpAny_pure h⟩) htake))
end
end HT
namespace L2
open PySem PySem.Spec PyProof.Rows
abbrev TO:=St->Hp->(Option Int->Hp->Prop)->Prop
def PO(X:Cx)(e:Option Expr)(t:TO):Prop :=
 ∀ (pins:List (Addr×Obj)) (s:Shared) (σ:St) (H:Hp) (Q:Option Int->Hp->Prop),Inv X pins σ H s->t σ H Q ->
  wpAny (model X.prog X.w) X.A (evalPart e X.env) (fun u s'=>∃ o H',Inv X pins σ H' s'/\IsPart u o/\Q o H') X.xe s
def tNoPart:TO:=fun _ H Q=>Q none H
def tPart(t:TE):TO:=fun σ H Q=>t σ H fun x H1=>∃ i,x = .int i/\Q (some i) H1
theorem j_q{ns:List Int}:∀ {us:List Value},Vals (ns.map V.int) us->IntsAre us ns:=by
 induction ns with
 | nil=>intro us r;rw [List.map_nil] at r;cases r;exact .nil
 | cons n ns ih =>
  intro us r
  rw [List.map_cons] at r
  cases r with
  | cons r1 r2 =>
   obtain ⟨t,e⟩:=r1
   subst e
   exact .cons n t (ih r2)
section
variable {X:Cx} {e:Expr} {te:TE} {lo hi:Option Expr} {tl th:TO} {pos p2:Pos}
theorem g_s:PO X none tNoPart:=by
 intro pins s σ H Q I h
 rw [evalPart_none]
 exact wpAny_pure ⟨none,H,I,.none,h⟩
theorem s_c(h:PE X e te):PO X (some e) (tPart te):=by
 intro pins s σ H Q I hw
 rw [evalPart_some]
 refine thn (h pins s σ H _ I hw) fun u s1 ⟨x,H1,I1,r1,q1⟩=>?_
 obtain ⟨i,rfl,q⟩:=q1
 obtain ⟨t,rfl⟩:=r1
 exact ⟨some i,H1,I1,.int i t,q⟩
def SlR(X:Cx)(r:V->Option Int->Option Int->Hp->VK->Prop):Prop :=
 ∀ (pins:List (Addr×Obj)) (s:Shared) (σ:St) (H:Hp) (x:V) (v vl vu:Value) (lo hi:Option Int) (sl:Addr) (Q:VK),Inv X pins σ H s->RelV x v->s.heap.IsSliceOf sl vl vu .none->IsPart vl lo->IsPart vu hi->r x lo hi H Q ->
  ∃ T id,typeLookup (.type T) "__getitem__" = pure (some (.builtin id))/\s.TypeIs v T/\wpAny (model X.prog X.w) X.A (getItem v (.ref sl)) (EP X pins σ Q) X.xe s
def tSl(r:V->Option Int->Option Int->Hp->VK->Prop)(te:TE)(tl th:TO):TE:=fun σ H Q=>te σ H fun x H1=>tl σ H1 fun l H2=>th σ H2 fun u H3=>r x l u H3 Q
theorem s_s{r:V->Option Int->Option Int->Hp->VK->Prop}(hr:SlR X r)(he:PE X e te)(hl:PO X lo tl)(hu:PO X hi th):PE X (.Subscript e (.Slice lo hi none p2) pos) (tSl r te tl th):=by
 intro pins s σ H Q I h
 refine Subscript_ (thn (he pins s σ H _ I h) fun v s1 ⟨x,H1,I1,r1,q1⟩=>?_)
 refine wpAny_Slice (thn (hl pins s1 σ H1 _ I1 q1) fun vl s2 ⟨l,H2,I2,pl,q2⟩=>thn (hu pins s2 σ H2 _ I2 q2) fun vu s3 ⟨u,H3,I3,pu,q3⟩=>?_)
 rw [evalPart_none]
 refine wpAny_pure ?_
 have I4:Inv X pins σ H3 { s3 with heap:=s3.heap.push { cls:=.type "slice",data:=.fields #[vl,vu,.none] } }:=I3.kept (t':=s3.toks) fun b ob q=>Heap.get?_push_of_some _ q
 obtain ⟨T,id,hT,ht,hg⟩:=hr pins { s3 with heap:=s3.heap.push { cls:=.type "slice",data:=.fields #[vl,vu,.none] } } σ H3 x v vl vu l u s3.heap.objs.size Q I4 r1 (Heap.IsSliceOf.new ..) pl pu q3
 show wpAny (model X.prog X.w) X.A (subscriptTail e (.Slice lo hi none p2) v (.ref s3.heap.objs.size)) (EP X pins σ Q) X.xe { s3 with heap:=s3.heap.push { cls:=.type "slice",data:=.fields #[vl,vu,.none] } }
 exact tail_any (ops:=[.ref s3.heap.objs.size,v]) ht hT hg (by with_unfolding_all rfl)
def cutV(xs:List V)(lo hi:Option Int):List V:=(xs.drop (HT.sIx xs.length 0 lo)).take (HT.sIx xs.length xs.length hi-HT.sIx xs.length 0 lo)
theorem s_y(xs:List V)(lo hi:Option Int):(cutV xs lo hi).length<=xs.length:=by
 unfold cutV
 rw [List.length_take,List.length_drop]
 lia
def rSlT(K:PySem.W.Frag):V->Option Int->Option Int->Hp->VK->Prop:=fun x lo hi H Q=>∃ a xs,x = .ref a/\SqT K H a xs /\
 ¬(HT.sIx xs.length 0 lo=0/\HT.sIx xs.length xs.length hi=xs.length)/\∀ p,H p=none->Q (.ref p) (upd H p (.tup (cutV xs lo hi)))
theorem sl_tup:SlR X (rSlT X.K):=by
 intro pins s σ H x v vl vu lo hi sl Q I rx hs pl pu h
 obtain ⟨a,xs,rfl,hx,hw,q⟩:=h
 cases rx
 obtain ⟨its,r,ht,hz⟩:=I.tuple hx
 have hlen:its.toArray.size=xs.length:=by rw [List.size_toArray];exact r.length.symm
 refine ⟨"tuple",_,PyProof.Rows.slot_tuple_getitem.lookup,ht.typeIs,?_⟩
 refine HT.getItem_tuple_cut ht hs pl pu (by rw [hlen];exact hw) ?_ (by rw [hlen];exact hz)
 rw [hlen]
 refine ⟨.ref s.heap.objs.size,_,I.laid (t':=s.toks) (o:=.tup (cutV xs lo hi)) (fun b ob q=>Heap.get?_push_of_some _ q) (Nat.le_refl _) ?_,rfl,q _ (I.hok.fresh (Nat.le_refl _))⟩
 exact ⟨Nat.le_trans (s_y xs lo hi) hz,_,(r.drop (HT.sIx xs.length 0 lo)).take (HT.sIx xs.length xs.length hi-HT.sIx xs.length 0 lo),IsTup.new _ _⟩
def rCatT(K:PySem.W.Frag):R2:=fun x y H Q=>∃ a b xs ys,x = .ref a/\y = .ref b/\SqT K H a xs/\SqT K H b ys/\xs≠[]/\xs.length+ys.length<=sizeLine /\
 (ys=[]->Q (.ref a) H)/\(ys≠[]->∀ p,H p=none->Q (.ref p) (upd H p (.tup (xs++ys))))
theorem Vals.nil_iff{xs:List V}{us:List Value}(r:Vals xs us):us=[]↔xs=[]:=by
 cases r with
 | nil=>simp
 | cons _ _=>simp
theorem op_catT:OpR X (binaryOp .Add) (rCatT X.K):=by
 intro pins s σ H x y v u Q I rx ry h
 obtain ⟨a,b,xs,ys,rfl,rfl,ha,hb,hx,hz,q1,q2⟩:=h
 cases rx
 cases ry
 obtain ⟨its,r1,p1,_⟩:=I.tuple ha
 obtain ⟨its2,r2,p2,_⟩:=I.tuple hb
 refine HT.cat_tup p1 p2 (fun z=>hx (r1.nil_iff.mp z)) (fun z=>⟨.ref a,H,I,rfl,q1 (r2.nil_iff.mp z)⟩) (fun z=>?_) (by rw [<-r1.length,<-r2.length];exact hz)
 refine ⟨.ref s.heap.objs.size,_,I.laid (t':=s.toks) (o:=.tup (xs++ys)) (fun b ob q=>Heap.get?_push_of_some _ q) (Nat.le_refl _) ?_,rfl,q2 (fun w=>z (r2.nil_iff.mpr w)) _ (I.hok.fresh (Nat.le_refl _))⟩
 exact ⟨by rw [List.length_append];exact hz,_,r1.append r2,IsTup.new _ _⟩
end
open PySem PySem.Spec PyProof.Rows
def ixN(n:Nat)(i:Int):Option Nat:=if 0<=i then (if i<n then some i.toNat else none) else if -(n:Int)<=i then some (i+n).toNat else none
def atI{α:Type}(xs:List α)(i:Int):Option α:=(ixN xs.length i).bind fun j=>xs[j]?
theorem h_n{n:Nat}{i:Int}{j:Nat}(h:ixN n i=some j):seqIndex? i n=some j/\j<n /\ -(n:Int)<=i/\i<n:=by
 unfold ixN at h
 by_cases h0:0<=i
 ·rw [if_pos h0] at h
  by_cases h1:i<n
  ·rw [if_pos h1] at h
   have e:i.toNat=j:=Option.some.inj h
   exact ⟨by rw [seqIndex_of h0 h1,e],by lia,by lia,h1⟩
  ·rw [if_neg h1] at h;cases h
 ·rw [if_neg h0] at h
  by_cases h1 : -(n:Int)<=i
  ·rw [if_pos h1] at h
   have e:(i+n).toNat=j:=Option.some.inj h
   exact ⟨by rw [seqIndex_neg (by lia) h1,e],by lia,h1,by lia⟩
  ·rw [if_neg h1] at h;cases h
theorem m_g{α:Type}{xs:List α}{i:Int}{v:α}(h:atI xs i=some v):∃ j,seqIndex? i xs.length=some j/\xs[j]? = some v/\j<xs.length /\ -(xs.length:Int)<=i/\i<xs.length:=by
 unfold atI at h
 cases e:ixN xs.length i with
 | none=>rw [e] at h;cases h
 | some j =>
  rw [e] at h
  obtain ⟨h1,h2,h3,h4⟩:=h_n e
  exact ⟨j,h1,h,h2,h3,h4⟩
theorem v_x{α:Type}{xs:List α}{j:Nat}{v:α}(h:xs[j]? = some v):atI xs (j:Int)=some v:=by
 have hj:j<xs.length:=(List.getElem?_eq_some_iff.mp h).1
 have e:ixN xs.length (j:Int)=some j:=by
  unfold ixN
  rw [if_pos (by lia),if_pos (by lia)];simp
 unfold atI;rw [e];exact h
def PlainIx(b:Expr):Prop:=∀ o i,subscripted b false o i=operate [o,i] (getItem o i)
def IxR(X:Cx)(r:R2):Prop :=
 ∀ (value slice:Expr) (pins:List (Addr×Obj)) (s:Shared) (σ:St) (H:Hp) (x y:V) (v u:Value) (Q:VK),Inv X pins σ H s->RelV x v->RelV y u->r x y H Q ->
  subscripted slice false v u=operate [v,u] (getItem v u)->wpAny (model X.prog X.w) X.A (subscriptTail value slice v u) (EP X pins σ Q) X.xe s
def MtR(X:Cx)(id:String)(r:V->List V->Hp->VK->Prop):Prop :=
 ∀ (pins:List (Addr×Obj)) (s:Shared) (σ:St) (H:Hp) (x:V) (xs:List V) (v:Value) (us:List Value) (Q:VK),Inv X pins σ H s->RelV x v->Vals xs us->r x xs H Q ->
  wpAny (model X.prog X.w) X.A (call (.builtin id) (v::us)) (EP X pins σ Q) X.xe s
section
variable {X:Cx} {a b:Expr} {ta tb:TE} {pos:Pos}
theorem IxR.or{r r':R2}(h:IxR X r)(h':IxR X r'):IxR X (fun x y H Q=>r x y H Q\/r' x y H Q):=by
 intro value slice pins s σ H x y v u Q I rx ry q hs
 rcases q with q | q
 ·exact h value slice pins s σ H x y v u Q I rx ry q hs
 ·exact h' value slice pins s σ H x y v u Q I rx ry q hs
theorem z_l{r:R2}(hr:IxR X r)(ha:PE X a ta)(hb:PE X b tb)(hs:PlainIx b):PE X (.Subscript a b pos) (tOp r ta tb):=by
 intro pins s σ H Q I h
 exact Subscript_ (binT ha hb I h fun v u s2 x y H2 I2 rx ry q=>hr a b pins s2 σ H2 x y v u Q I2 rx ry q (hs _ _))
def rIxL(K:PySem.W.Frag):R2:=fun x y H Q=>∃ p xs i v,x = .ref p/\y = .int i/\SqL K H p xs/\atI xs i=some v/\Q v H
def rIxT(K:PySem.W.Frag):R2:=fun x y H Q=>∃ p xs i v,x = .ref p/\y = .int i/\SqT K H p xs/\atI xs i=some v/\Q v H
def rIxS:R2:=fun x y H Q=>∃ z i c,x = .str z/\y = .int i/\z.length<=sizeLine/\atI z.cps.toList i=some c/\Q (.str ⟨#[c]⟩) H
theorem u_a:IxR X (rIxL X.K):=by
 intro value slice pins s σ H x y v u Q I rx ry h hs
 obtain ⟨p,xs,i,z,rfl,rfl,hq,he,q⟩:=h
 cases rx
 obtain ⟨t,rfl⟩:=ry
 obtain ⟨its,r,pl,hz⟩:=I.list hq
 obtain ⟨j,h1,h2,h3,h4,h5⟩:=m_g he
 obtain ⟨w,ew,rw'⟩:=r.get h2
 have hl:=r.length
 have hn:=line63
 have fin:EP X pins σ Q w s:=⟨z,H,I,rw',q⟩
 by_cases h0:0<=i
 ·have hj:i.toNat=j:=by
   rw [seqIndex_of h0 h5] at h1
   exact Option.some.inj h1
  exact item_listR pl.isList h0 (by lia) (by rw [hj];simpa using ew) fin hs
 ·have hj:(i+(its.toArray.size:Int)).toNat=j:=by
   rw [seqIndex_neg (by lia) h4] at h1
   rw [List.size_toArray,<-hl]
   exact Option.some.inj h1
  exact subscriptTail_builtinR (x:=w) pl.isList.typeIs slot_list_getitem.lookup
   (wpAny_getItem_list_neg (Q:=fun r s'=>r=w/\EP X pins σ Q r s') pl.isList (by lia) (by rw [List.size_toArray]<;>lia) (by lia) (by rw [hj];simpa using ew) ⟨rfl,fin⟩) hs
theorem t_e:IxR X (rIxT X.K):=by
 intro value slice pins s σ H x y v u Q I rx ry h hs
 obtain ⟨p,xs,i,z,rfl,rfl,hq,he,q⟩:=h
 cases rx
 obtain ⟨t,rfl⟩:=ry
 obtain ⟨its,r,pl,hz⟩:=I.tuple hq
 obtain ⟨j,h1,h2,h3,h4,h5⟩:=m_g he
 obtain ⟨w,ew,rw'⟩:=r.get h2
 have hl:=r.length
 have hn:=line63
 have fin:EP X pins σ Q w s:=⟨z,H,I,rw',q⟩
 exact subscriptTail_builtinR (x:=w) pl.typeIs slot_tuple_getitem.lookup
  (getItem_tuple (j:=j) (Q:=fun r s'=>r=w/\EP X pins σ Q r s') pl (by lia) (by lia) (by rw [List.size_toArray,<-hl];exact h1) (by simpa using ew) ⟨rfl,fin⟩) hs
theorem ix_str:IxR X rIxS:=by
 intro value slice pins s σ H x y v u Q I rx ry h hs
 obtain ⟨z,i,c,rfl,rfl,hz,he,q⟩:=h
 obtain ⟨t,rfl⟩:=rx
 obtain ⟨t',rfl⟩:=ry
 obtain ⟨j,h1,h2,h3,h4,h5⟩:=m_g he
 have hl:z.cps.toList.length=z.length:=by simp [Str.length]
 rw [hl] at h1 h4 h5
 have hn:=line63
 exact tail_any (typeIs_str s z t) slot_str_getitem.lookup (getItem_str (c:=c) (by
  have e1:decide (i < -(2^63:Int))=false:=decide_eq_false (by lia)
  have e2:decide (i≥2^63)=false:=decide_eq_false (by lia)
  rw [e1,e2,Bool.or_false]) (by rw [h1];simpa using h2) ⟨.str ⟨#[c]⟩,H,I.tok _,⟨_,rfl⟩,q⟩) hs
def rIx(K:PySem.W.Frag):R2:=fun x y H Q=>rIxL K x y H Q\/rIxT K x y H Q\/rIxS x y H Q
theorem j_x(its:List Value)(n j:Nat)(u:Value):Obj.mapSeq (·.setIfInBounds j u) { cls:=.type "list",data:=.seq its.toArray n }={ cls:=.type "list",data:=.seq (its.set j u).toArray n }:=by
 simp [Obj.mapSeq]
theorem Inv.lst{pins:List (Addr×Obj)}{σ:St}{H:Hp}{s:Shared}{p:Addr}{xs:List V}(I:Inv X pins σ H s)(h:H p=some (.lst xs)) :
  ∃ (its:List Value) (n:Nat),Vals xs its/\s.heap.get? p=some { cls:=.type "list",data:=.seq its.toArray n }/\xs.length<=sizeLine:=by
 obtain ⟨z,its,n,r,e⟩:=I.hok p _ h
 exact ⟨its,n,r,e,z⟩
theorem Inv.lstUpd{pins:List (Addr×Obj)}{σ:St}{H:Hp}{s:Shared}{p:Addr}{xs ys:List V}{its its':List Value}{n n':Nat}{f:Obj->Obj}(I:Inv X pins σ H s)(h:H p=some (.lst xs))
  (ho:s.heap.get? p=some { cls:=.type "list",data:=.seq its.toArray n }) (hf:f { cls:=.type "list",data:=.seq its.toArray n }={ cls:=.type "list",data:=.seq its'.toArray n' }) (r:Vals ys its') (hz:ys.length<=sizeLine) (t:Nat) :
  Inv X pins σ (upd H p (.lst ys)) { s with heap:=s.heap.update p f,toks:=t }:=by
 have e:(s.heap.update p f).get? p=some { cls:=.type "list",data:=.seq its'.toArray n' }:=by
  rw [Heap.get?_update_self f ho (by rw [hf]<;>rfl),hf]
 refine I.write (x:=p) (e:=p) (by rw [h];trivial) (.inl rfl) (fun b u hb q=>(Heap.get?_update_other _ _ (Ne.symm hb)).trans q) ⟨_,e⟩ ?_
 exact ⟨hz,its',n',r,e⟩
def rSetL:V->V->V->Hp->(Hp->Prop)->Prop:=fun o i v H Q=>∃ p xs k j,o = .ref p/\i = .int k/\H p=some (.lst xs)/\ixN xs.length k=some j/\Q (upd H p (.lst (xs.set j v)))
theorem k_q:PSet X rSetL:=by
 intro pins s σ H o i v ov iv u Q I ro ri rv h
 obtain ⟨p,xs,k,j,rfl,rfl,hp,hj,q⟩:=h
 cases ro
 obtain ⟨t,rfl⟩:=ri
 obtain ⟨its,n,r,ho,hz⟩:=I.lst hp
 obtain ⟨h1,h2,h3,h4⟩:=h_n hj
 have hl:=r.length
 have hn:=line63
 have I':Inv X pins σ (upd H p (.lst (xs.set j v))) { s with heap:=s.heap.update p (Obj.mapSeq (·.setIfInBounds j u)) } :=
  I.lstUpd hp ho (j_x its n j u) (r.set rv j) (by rw [List.length_set];exact hz) s.toks
 by_cases h0:0<=k
 ·have hk:k.toNat=j:=by
   rw [seqIndex_of h0 h4] at h1
   exact Option.some.inj h1
  exact PySem.W.ki_setAt ho h0 (by lia) (by rw [List.size_toArray,<-hl];exact h4) (by rw [hk];exact ⟨_,I',q⟩)
 ·have hk:(k+(its.toArray.size:Int)).toNat=j:=by
   rw [seqIndex_neg (by lia) h3] at h1
   rw [List.size_toArray,<-hl]
   exact Option.some.inj h1
  exact PySem.W.ki_setBack ho (by lia) (by rw [List.size_toArray,<-hl];exact h3) (by lia) (by rw [hk];exact ⟨_,I',q⟩)
theorem n_t(lo hi:Option Int)(n:Nat):(sliceBounds lo hi none n).1=((HT.sIx n 0 lo:Nat):Int)/\(sliceBounds lo hi none n).2.1=((HT.sIx n n hi:Nat):Int)/\(sliceBounds lo hi none n).2.2=1:=by
 refine ⟨?_,?_,rfl⟩
 ·cases lo with
  | none=>simp [sliceBounds,HT.sIx]
  | some i =>
   simp only [sliceBounds,HT.sIx,Option.getD_none,show (1:Int) > 0 by decide,if_true]
   by_cases h:i<0
   ·simp only [h,if_true]<;>lia
   ·simp only [h,if_false]<;>lia
 ·cases hi with
  | none=>simp [sliceBounds,HT.sIx]
  | some i =>
   simp only [sliceBounds,HT.sIx,Option.getD_none,show (1:Int) > 0 by decide,if_true]
   by_cases h:i<0
   ·simp only [h,if_true]<;>lia
   ·simp only [h,if_false]<;>lia
theorem p_q(its:List Value)(lo hi:Option Int):slicePick its.toArray lo hi none=((its.drop (HT.sIx its.length 0 lo)).take (HT.sIx its.length its.length hi-HT.sIx its.length 0 lo)).toArray:=by
 obtain ⟨h1,h2,h3⟩:=n_t lo hi its.toArray.size
 unfold slicePick
 rw [h1,h2,h3]
 simp only [sliceRange_one,pick_run,List.size_toArray]<;>rfl
def rSlL(K:PySem.W.Frag):V->Option Int->Option Int->Hp->VK->Prop:=fun x lo hi H Q=>∃ a xs,x = .ref a/\SqL K H a xs/\∀ p,H p=none->Q (.ref p) (upd H p (.lst (cutV xs lo hi)))
theorem sl_list:SlR X (rSlL X.K):=by
 intro pins s σ H x v vl vu lo hi sl Q I rx hs pl pu h
 obtain ⟨a,xs,rfl,hx,q⟩:=h
 cases rx
 obtain ⟨its,r,ht,hz⟩:=I.list hx
 have hlen:=r.length
 refine ⟨"list",_,slot_list_getitem.lookup,ht.isList.typeIs,?_⟩
 refine wpAny_getItem_list_slice ht.isList hs pl pu .none (by simp) ?_ (by rw [List.size_toArray]<;>lia)
 rw [p_q,<-hlen]
 refine ⟨.ref s.heap.objs.size,_,I.laid (t':=s.toks) (o:=.lst (cutV xs lo hi)) (fun b ob q=>Heap.get?_push_of_some _ q) (Nat.le_refl _) ?_,rfl,q _ (I.hok.fresh (Nat.le_refl _))⟩
 exact ⟨Nat.le_trans (s_y xs lo hi) hz,_,0,(r.drop (HT.sIx xs.length 0 lo)).take (HT.sIx xs.length xs.length hi-HT.sIx xs.length 0 lo),Heap.get?_push_size _ rfl⟩
def flatV:V->Bool
 | .non=>true
 | .bl _=>true
 | .int _=>true
 | .str _=>true
 | _=>false
def eqV:V->V->Bool
 | .non,.non=>true
 | .bl a,.bl b=>a == b
 | .bl a,.int b=>(if a then 1 else 0) == b
 | .int a,.bl b=>a == (if b then 1 else 0)
 | .int a,.int b=>a == b
 | .str a,.str b=>a == b
 | _,_=>false
theorem eqAt_V{A:Around}{s:Shared}{y x:V}{u v:Value}(ry:RelV y u)(rx:RelV x v)(fy:flatV y=true)(fx:flatV x=true):SeqAt.EqAt A s u v (eqV y x):=by
 cases y with
 | non =>
  cases ry
  cases x with
  | non=>cases rx;exact SeqAt.EqAt.same _
  | bl b=>cases rx;exact SeqAt.EqAt.none_bool b
  | int b=>obtain ⟨t,rfl⟩:=rx;exact SeqAt.EqAt.none_int b t
  | str b=>obtain ⟨t,rfl⟩:=rx;exact SeqAt.EqAt.none_str b t
  | _=>exact absurd (show false=true from fx) Bool.false_ne_true
 | bl a =>
  cases ry
  cases x with
  | non=>cases rx;exact SeqAt.EqAt.bool_none a
  | bl b=>cases rx;exact SeqAt.EqAt.bool_bool a b
  | int b=>obtain ⟨t,rfl⟩:=rx;exact SeqAt.EqAt.bool_int a b t
  | str b=>obtain ⟨t,rfl⟩:=rx;exact SeqAt.EqAt.bool_str a b t
  | _=>exact absurd (show false=true from fx) Bool.false_ne_true
 | int a =>
  obtain ⟨t',rfl⟩:=ry
  cases x with
  | non=>cases rx;exact SeqAt.EqAt.int_none a t'
  | bl b=>cases rx;exact SeqAt.EqAt.int_bool a t' b
  | int b=>obtain ⟨t,rfl⟩:=rx;exact SeqAt.EqAt.int_int a t' b t
  | str b=>obtain ⟨t,rfl⟩:=rx;exact SeqAt.EqAt.int_str a t' b t
  | _=>exact absurd (show false=true from fx) Bool.false_ne_true
 | str a =>
  obtain ⟨t',rfl⟩:=ry
  cases x with
  | non=>cases rx;exact SeqAt.EqAt.str_none a t'
  | bl b=>cases rx;exact SeqAt.EqAt.str_bool a t' b
  | int b=>obtain ⟨t,rfl⟩:=rx;exact SeqAt.EqAt.str_int a t' b t
  | str b=>obtain ⟨t,rfl⟩:=rx;exact SeqAt.EqAt.str_str a t' b t
  | _=>exact absurd (show false=true from fx) Bool.false_ne_true
 | _=>exact absurd (show false=true from fy) Bool.false_ne_true
def eqU(x:V)(u:Value):Bool:=match u with
 | .none=>eqV .non x
 | .bool b=>eqV (.bl b) x
 | .int i _=>eqV (.int i) x
 | .str z _=>eqV (.str z) x
 | _=>false
theorem eqU_of{x y:V}{u:Value}(r:RelV y u)(f:flatV y=true):eqU x u=eqV y x:=by
 cases y with
 | non=>cases r;rfl
 | bl b=>cases r;rfl
 | int i=>obtain ⟨t,rfl⟩:=r;rfl
 | str z=>obtain ⟨t,rfl⟩:=r;rfl
 | _=>exact absurd (show false=true from f) Bool.false_ne_true
theorem m_f{x:V}:∀ {xs:List V} {us:List Value},Vals xs us->xs.all flatV=true->us.any (eqU x)=xs.any fun y=>eqV y x
 | _,_,.nil,_=>rfl
 | y::xs,u::us,.cons r t,f=>by
  rw [List.all_cons,Bool.and_eq_true] at f
  rw [List.any_cons,List.any_cons,eqU_of r f.1,m_f t f.2]
theorem p_a{A:Around}{s:Shared}{x:V}{v:Value}(rx:RelV x v)(fx:flatV x=true):∀ {xs:List V} {us:List Value},Vals xs us->xs.all flatV=true->∀ u∈us,SeqAt.EqAt A s u v (eqU x u)
 | _,_,.nil,_=>fun u hu=>by cases hu
 | y::xs,u::us,.cons r t,f=>fun u' hu=>by
  rw [List.all_cons,Bool.and_eq_true] at f
  rcases List.mem_cons.mp hu with rfl | hu
  ·rw [eqU_of r f.1];exact eqAt_V r rx f.1 fx
  ·exact p_a rx fx t f.2 u' hu
def inV(x:V)(xs:List V):Bool:=xs.any fun y=>eqV y x
def rIn(K:PySem.W.Frag)(neg:Bool):R2:=fun x y H Q=>∃ p xs,y = .ref p/\(SqL K H p xs\/SqT K H p xs)/\flatV x=true/\xs.all flatV=true/\Q (.bl (if neg then !inV x xs else inV x xs)) H
theorem n_f:OpR X (compareOp .NotIn) (rIn X.K true):=by
 intro pins s σ H x y v u Q I rx ry h
 obtain ⟨p,xs,rfl,hq,fx,fs,q⟩:=h
 cases ry
 rcases hq with hq | hq
 ·obtain ⟨its,r,pl,hz⟩:=I.list hq
  refine SeqAt.notIn_listAt (eqU x) pl.isList (fun w hw=>p_a rx fx r fs w (by simpa using hw)) ⟨.bl _,H,I,rfl,?_⟩
  rw [show its.toArray.any (eqU x)=its.any (eqU x) by simp,m_f r fs]
  exact q
 ·obtain ⟨its,r,pl,hz⟩:=I.tuple hq
  refine SeqAt.notIn_tupleAt (eqU x) pl (fun w hw=>p_a rx fx r fs w (by simpa using hw)) ⟨.bl _,H,I,rfl,?_⟩
  rw [show its.toArray.any (eqU x)=its.any (eqU x) by simp,m_f r fs]
  exact q
theorem u_j:CallR X (.type "list") (fun xs H Q=>∃ p ys,xs=[.ref p]/\(SqL X.K H p ys\/SqT X.K H p ys)/\∀ l,H l=none->Q (.ref l) (upd H l (.lst ys))):=by
 intro pins s σ H xs us Q I r h
 obtain ⟨p,ys,rfl,hq,q⟩:=h
 obtain ⟨u,rfl,rx⟩:=vals1 r
 cases rx
 have fin:∀ (its:List Value),Vals ys its->ys.length<=sizeLine->∀ (h':Heap) (c':Nat),(∀ b o',s.heap.get? b=some o'->h'.get? b=some o') ->
   h'.get? s.heap.objs.size=some { cls:=.type "list",dict:=none,data:=.seq its.toArray c',slots:=#[] }->EP X pins σ Q (.ref s.heap.objs.size) { s with heap:=h' }:=fun its r' hz h' c' kp e =>
  ⟨.ref s.heap.objs.size,_,I.laid (t':=s.toks) kp (Nat.le_refl _) (show ObjOk X.prog X.w _ h' _ (.lst ys) from ⟨hz,its,c',r',e⟩),rfl,q _ (I.hok.fresh (Nat.le_refl _))⟩
 rcases hq with hq | hq
 ·obtain ⟨its,r',pl,hz⟩:=I.list hq
  have hlen:=r'.length
  obtain ⟨o,ho,hc,n,hd⟩:=pl.isList
  exact call_list_seq p (.inl rfl) ho hc hd (fun h' c' kp e=>fin its r' hz h' c' kp e) (by simp only [List.size_toArray]<;>lia)
 ·obtain ⟨its,r',pl,hz⟩:=I.tuple hq
  have hlen:=r'.length
  obtain ⟨o,ho,hc,n,hd⟩:=pl
  exact call_list_seq p (.inr rfl) ho hc hd (fun h' c' kp e=>fin its r' hz h' c' kp e) (by simp only [List.size_toArray]<;>lia)
theorem w_p:CallR X (.type "tuple") (fun xs H Q=>∃ p ys,xs=[.ref p]/\((SqL X.K H p ys/\∀ l,H l=none->Q (.ref l) (upd H l (.tup ys)))\/(SqT X.K H p ys/\Q (.ref p) H))):=by
 intro pins s σ H xs us Q I r h
 obtain ⟨p,ys,rfl,h⟩:=h
 obtain ⟨u,rfl,rx⟩:=vals1 r
 cases rx
 rcases h with ⟨hq,q⟩ | ⟨hq,q⟩
 ·obtain ⟨its,r',pl,hz⟩:=I.list hq
  have hlen:=r'.length
  refine call_tuple_list pl.isList (fun h' kp=>?_) (by simp only [List.size_toArray]<;>lia)
  have I1:Inv X pins σ H { s with heap:=h' }:=I.kept (t':=s.toks) kp
  have I2:Inv X pins σ (upd H h'.objs.size (.tup ys)) { s with heap:=h'.push { cls:=.type "tuple",data:=.seq its.toArray } } :=
   I1.laid (t':=s.toks) (fun b o e=>Heap.get?_push_of_some _ e) (Nat.le_refl _) (show ObjOk X.prog X.w _ _ _ (.tup ys) from ⟨hz,its,r',IsTup.new _ _⟩)
  exact ⟨.ref h'.objs.size,_,I2,rfl,q _ (I1.hok.fresh (Nat.le_refl _))⟩
 ·obtain ⟨its,r',pl,hz⟩:=I.tuple hq
  exact call_tuple_same pl ⟨.ref p,H,I,rfl,q⟩
def tyV(K:PySem.W.Frag)(T:String)(x:V)(H:Hp):Prop:=match x with
 | .str _=>T = "str"
 | .int _=>T = "int"
 | .ref p=>(T = "list" /\ ∃ xs,SqL K H p xs)\/(T = "tuple" /\ ∃ o,K.lookup p=some o/\o.cls = .type "tuple" /\ o.dict=none) \/
   (T = "dict" /\ ((∃ kvs,H p=some (.dK kvs))\/∃ kvs,H p=some (.dT kvs)))\/(T = "set" /\ ∃ S n,H p=some (.set S n))
 | _=>False
theorem tyV_is{pins:List (Addr×Obj)}{σ:St}{H:Hp}{s:Shared}{T:String}{x:V}{v:Value}(I:Inv X pins σ H s)(r:RelV x v)(ty:tyV X.K T x H) :
  s.TypeIs v T/\∀ a,v = .ref a->∃ ob,s.heap.get? a=some ob/\ob.dict=none:=by
 cases x with
 | str z =>
  obtain ⟨t,rfl⟩:=r
  cases (show T = "str" from ty)
  exact ⟨typeIs_str s z t,fun _ e=>nomatch e⟩
 | int i =>
  obtain ⟨t,rfl⟩:=r
  cases (show T = "int" from ty)
  exact ⟨typeIs_int s i t,fun _ e=>nomatch e⟩
 | ref p =>
  cases r
  rcases ty with ⟨rfl,xs,hq⟩ | ⟨rfl,o,hk,hc,hd⟩ | ⟨rfl,hk⟩ | ⟨rfl,S,n,hk⟩
  ·obtain ⟨its,_,pl,_⟩:=I.list hq
   refine ⟨pl.isList.typeIs,fun a e=>?_⟩
   cases e
   obtain ⟨o,n,e,c,hd,_⟩:=pl
   exact ⟨o,e,hd⟩
  ·refine ⟨⟨o,I.kIn p o hk,hc⟩,fun a e=>?_⟩
   cases e
   exact ⟨o,I.kIn _ o hk,hd⟩
  ·have z:∃ o,s.heap.get? p=some o/\o.ExactDict:=by
    rcases hk with ⟨kvs,hk⟩ | ⟨kvs,hk⟩
    ·obtain ⟨_,_,_,_,o,_,_,e,ex,_⟩:=I.hok p _ hk
     exact ⟨o,e,ex⟩
    ·obtain ⟨_,_,_,_,o,_,_,e,ex,_⟩:=I.hok p _ hk
     exact ⟨o,e,ex⟩
   obtain ⟨o,e,ex⟩:=z
   refine ⟨⟨o,e,ex.1⟩,fun a e2=>?_⟩
   cases e2
   exact ⟨o,e,ex.2.1⟩
  ·obtain ⟨o,_,_,_,e,ex,_⟩:=I.hok p _ hk
   refine ⟨⟨o,e,ex.1⟩,fun a e2=>?_⟩
   cases e2
   exact ⟨o,e,ex.2.1⟩
 | _=>exact False.elim ty
def tBM0(K:PySem.W.Frag)(T:String)(r:V->List V->Hp->VK->Prop)(to:TE):TE:=fun σ H Q=>to σ H fun x H1=>tyV K T x H1/\r x [] H1 Q
def tBM(K:PySem.W.Frag)(T:String)(r:V->List V->Hp->VK->Prop)(to:TE)(t:TA):TE:=fun σ H Q=>to σ H fun x H1=>tyV K T x H1/\t σ H1 fun xs H2=>r x xs H2 Q
variable {o e:Expr} {es:List Expr} {to:TE} {t:TA} {name:Str} {apos cpos:Pos} {T id:String} {r:V->List V->Hp->VK->Prop}
theorem pe_bm0(pa:PlainAttrs T)(slot:Slot T name id)(hty:typeOf (.builtin id)=pure (.type "method_descriptor"))(hm:MtR X id r)(ho:PE X o to)
  (hbase:attributeBase o name X.env (eval o X.env)=eval o X.env:=by rfl) (hline:(apos.endLine == cpos.line)=true:=by rfl):PE X (.Call (.Attribute o name apos) [] [] cpos) (tBM0 X.K T r to):=by
 intro pins s σ H Q I h
 refine wpAny_Call_method0_late hbase hline (thn (ho pins s σ H _ I h) fun v s1 ⟨x,H1,I1,r1,ty,q1⟩=>?_)
 obtain ⟨h1,h2⟩:=tyV_is I1 r1 ty
 exact ⟨T,id,pa,slot,hty,h1,h2,Calls.callWith_builtin rfl (PySem.evalArgs_none (hm pins s1 σ H1 x [] v [] Q I1 r1 .nil q1))⟩
theorem pe_bm(pa:PlainAttrs T)(slot:Slot T name id)(hty:typeOf (.builtin id)=pure (.type "method_descriptor"))(hm:MtR X id r)(ho:PE X o to)(ha:PA X (e::es) t)
  (hbase:attributeBase o name X.env (eval o X.env)=eval o X.env:=by rfl)
  (hfew:((backTo cpos (starEach (e::es) X.env)).all (fun x=>!x.1)&&(backToKw cpos (keywordEach [] X.env)).all (fun x=>x.1.isSome)
   && decide ((e::es).length+([]:List Keyword).length+(if ([]:List Keyword).isEmpty then 0 else 1)<30))=true:=by rfl)
  (hline:(apos.endLine == cpos.line)=true:=by rfl) (hs:starEach (e::es) X.env=(false,eval e X.env)::starEach es X.env:=by rfl) (hplain:(backTo cpos (starEach es X.env)).any (·.1)=false:=by rfl) :
  PE X (.Call (.Attribute o name apos) (e::es) [] cpos) (tBM X.K T r to t):=by
 intro pins s σ H Q I h
 refine wpAny_Call_method_late hbase hfew hline rfl (thn (ho pins s σ H _ I h) fun v s1 ⟨x,H1,I1,r1,ty,q1⟩=>?_)
 obtain ⟨h1,h2⟩:=tyV_is I1 r1 ty
 refine ⟨T,id,pa,slot,hty,h1,h2,?_⟩
 have hA:=ha cpos pins s1 σ H1 _ I1 q1
 rw [hs] at hA ⊢
 refine Calls.callWith_builtin (by show (false || (backTo cpos (starEach es X.env)).any (·.1))=false;rw [hplain]<;>rfl) (Calls.evalArgs_plain ?_)
 exact thn hA fun us s2 ⟨vs,H2,I2,r2,q2⟩=>hm pins s2 σ H2 x vs v us Q I2 r1 r2 q2
/- xs.append(e),list.index on a module's tuple .. are MtR facts of 06m -/
end
end L2
namespace L2
open PySem PySem.Spec PyProof.Rows
def MtM(X:Cx)(id:String)(r:V->List V->Hp->VK->Prop):Prop :=
 ∀ (pins:List (Addr×Obj)) (s:Shared) (σ:St) (H:Hp) (x:V) (xs:List V) (v:Value) (us:List Value) (Q:VK),Inv X pins σ H s->RelV x v->Vals xs us->r x xs H Q ->
  wpAny (model X.prog X.w) X.A (call (.builtin id) (v::us)) (EP X pins σ Q) X.xe s
theorem Vals.one:∀ {x:V} {us:List Value},Vals [x] us->∃ u,us=[u]/\RelV x u
 | _,_,.cons r .nil=>⟨_,rfl,r⟩
theorem Vals.zero:∀ {us:List Value},Vals [] us->us=[]
 | _,.nil=>rfl
theorem Vals.dropLast{xs:List V}{us:List Value}(h:Vals xs us):Vals xs.dropLast us.dropLast:=by
 induction h with
 | nil=>exact .nil
 | cons r t ih =>
  cases t with
  | nil=>exact .nil
  | cons q t'=>exact .cons r ih
theorem j_m{α:Type}(l:List α):l.eraseIdx (l.length-1)=l.dropLast:=by
 induction l with
 | nil=>rfl
 | cons a r ih =>
  cases r with
  | nil=>rfl
  | cons b r =>
   have e:(a::b::r).length-1=((b::r).length-1)+1:=by
    have h1:(a::b::r).length=r.length+2:=rfl
    have h2:(b::r).length=r.length+1:=rfl
    lia
   rw [e,List.eraseIdx_cons_succ,ih]
   all_goals rfl
section
variable {X:Cx} {pins:List (Addr×Obj)} {σ:St} {H:Hp} {s:Shared} {l b:Addr} {xs ys zs:List V}
theorem Inv.lset{its its':List Value}{n:Nat}{f:Array Value->Array Value}{t':Nat}(I:Inv X pins σ H s)(hH:H l=some (.lst xs))
  (e:s.heap.get? l=some { cls:=.type "list",data:=.seq its.toArray n }) (hf:f its.toArray=its'.toArray) (hv:Vals ys its') (hz:ys.length<=sizeLine) :
  Inv X pins σ (upd H l (.lst ys)) { s with heap:=s.heap.update l (Obj.mapSeq f),toks:=t' }:=by
 have q:=PySem.IsL.update e f
 rw [hf] at q
 refine I.write (x:=l) (e:=l) (by rw [hH];exact trivial) (.inl rfl) (fun b' u hb hu=>(Heap.get?_update_other s.heap (Obj.mapSeq f) (Ne.symm hb)).trans hu) ⟨_,q⟩ ?_
 exact ⟨hz,its',_,hv,q⟩
theorem Inv.lnew{its:List Value}{t':Nat}(I:Inv X pins σ H s)(hv:Vals ys its)(hz:ys.length<=sizeLine) :
  Inv X pins σ (upd H s.heap.objs.size (.lst ys)) { s with heap:=s.heap.push { cls:=.type "list",data:=.seq its.toArray },toks:=t' } :=
 I.laid (fun _ _ q=>Heap.get?_push_of_some _ q) (Nat.le_refl _) ⟨hz,its,0,hv,Heap.get?_push_size _ rfl⟩
theorem Inv.fresh(I:Inv X pins σ H s):H s.heap.objs.size=none:=I.hok.fresh (Nat.le_refl _)
theorem Inv.lstM(I:Inv X pins σ H s)(hH:H l=some (.lst xs)):xs.length<=sizeLine/\∃ (its:List Value) (n:Nat),Vals xs its/\xs.length=its.length/\s.heap.get? l=some { cls:=.type "list",data:=.seq its.toArray n }:=by
 obtain ⟨z,its,n,r,e⟩:=I.hok l _ hH
 exact ⟨z,its,n,r,r.length,e⟩
theorem notLongL{n:Nat}(h:n<=sizeLine):Builtin.List.listTooLong n=false:=by
 unfold Builtin.List.listTooLong
 exact decide_eq_false (by lia)
end
section
variable {X:Cx}
def rAppend:V->List V->Hp->VK->Prop:=fun x vs H Q=>∃ l xs y,x = .ref l/\vs=[y]/\H l=some (.lst xs)/\xs.length<sizeLine/\Q .non (upd H l (.lst (xs++[y])))
theorem x_a:MtM X "list.append" rAppend:=by
 intro pins s σ H x vs v us Q I rx rv h
 obtain ⟨l,xs,y,rfl,rfl,hH,hz,q⟩:=h
 cases rx
 obtain ⟨u,rfl,ru⟩:=rv.one
 obtain ⟨z,its,n,r,hl,e⟩:=I.lstM hH
 refine call_meets F.slot_list_append ⟨_,e,rfl⟩ F.entry_list_append (F.args_list_append_2 _ _) (PySem.list_append l its.toArray n u (by rw [List.size_toArray];lia)) ⟨e,?_⟩
 refine ⟨.non,_,I.lset (its':=its++[u]) hH e (by simp) (r.append (.cons ru .nil)) ?_,rfl,q⟩
 rw [List.length_append,List.length_singleton]
 lia
def rExtend:V->List V->Hp->VK->Prop:=fun x vs H Q=>∃ l b xs zs,x = .ref l/\vs=[.ref b]/\H l=some (.lst xs)/\H b=some (.lst zs)/\xs.length+zs.length<=sizeLine/\Q .non (upd H l (.lst (xs++zs)))
theorem t_o:MtM X "list.extend" rExtend:=by
 intro pins s σ H x vs v us Q I rx rv h
 obtain ⟨l,b,xs,zs,rfl,rfl,hH,hB,hz,q⟩:=h
 cases rx
 obtain ⟨u,rfl,ru⟩:=rv.one
 cases ru
 obtain ⟨z,its,n,r,hl,e⟩:=I.lstM hH
 obtain ⟨z2,its2,n2,r2,hl2,e2⟩:=I.lstM hB
 have hsz:its.toArray.size+its2.toArray.size<=sizeLine:=by rw [List.size_toArray,List.size_toArray];lia
 have hlong:¬(!its.toArray.isEmpty&&Builtin.List.listTooLong (its.toArray.size+its2.toArray.size))=true:=by
  rw [notLongL hsz,Bool.and_false]
  exact Bool.false_ne_true
 refine call_meets F.slot_list_extend ⟨_,e,rfl⟩ F.entry_list_extend (F.args_list_extend_2 _ _)
  (AutoSeq1.list_extend_list_list_0 l its.toArray n b its2.toArray n2 hlong (by rw [List.size_toArray];lia) (by lia)) ⟨e,e2,?_⟩
 refine ⟨.non,_,I.lset (its':=its++its2) hH e (by simp) (r.append r2) ?_,rfl,q⟩
 rw [List.length_append]
 lia
def rPop:V->List V->Hp->VK->Prop:=fun x vs H Q=>∃ l xs y,x = .ref l/\vs=[]/\H l=some (.lst xs)/\xs[xs.length-1]? = some y/\Q y (upd H l (.lst xs.dropLast))
theorem mt_pop:MtM X "list.pop" rPop:=by
 intro pins s σ H x vs v us Q I rx rv h
 obtain ⟨l,xs,y,rfl,rfl,hH,hy,q⟩:=h
 cases rx
 have hus:=rv.zero
 subst hus
 obtain ⟨z,its,n,r,hl,e⟩:=I.lstM hH
 obtain ⟨u,hu,ru⟩:=r.get hy
 have hy':its.toArray[its.toArray.size-1]? = some u:=by
  show its.toArray[its.length-1]? = some u
  rw [<-Array.getElem?_toList,<-hl]
  exact hu
 refine call_meets F.slot_list_pop ⟨_,e,rfl⟩ F.entry_list_pop (F.args_list_pop_1 _) (MeetsSeq.list_pop_last l its.toArray n u hy' (by rw [List.size_toArray];lia)) ⟨e,?_⟩
 refine ⟨y,_,I.lset (its':=its.dropLast) hH e ?_ r.dropLast ?_,ru,q⟩
 ·show its.toArray.eraseIdxIfInBounds (its.toArray.size-1)=its.dropLast.toArray
  rw [List.size_toArray,List.eraseIdxIfInBounds_toArray,j_m]
 ·rw [List.length_dropLast]
  lia
def rCat:R2:=fun x y H Q=>∃ l b xs zs,x = .ref l/\y = .ref b/\H l=some (.lst xs)/\H b=some (.lst zs)/\xs.length+zs.length<=sizeLine/\∀ p,H p=none->Q (.ref p) (upd H p (.lst (xs++zs)))
theorem v_m:OpR X (binaryOp .Add) rCat:=by
 intro pins s σ H x y v u Q I rx ry h
 obtain ⟨l,b,xs,zs,rfl,rfl,hH,hB,hz,q⟩:=h
 cases rx
 cases ry
 obtain ⟨z,its,n,r,hl,e⟩:=I.lstM hH
 obtain ⟨z2,its2,n2,r2,hl2,e2⟩:=I.lstM hB
 refine PySem.P.add_list e e2 ?_ (by rw [List.size_toArray,List.size_toArray];lia)
 have ea:its.toArray++its2.toArray=(its++its2).toArray:=by simp
 rw [ea]
 exact ⟨.ref _,_,I.lnew (t':=s.toks) (r.append r2) (by rw [List.length_append];lia),rfl,q _ I.fresh⟩
end
open PySem PySem.Spec PyProof.Rows
section
variable {κ:Type} [DecidableEq κ]
def valV(kvs:List (κ×V))(k:κ):Option V:=(kvs.find? fun kv=>decide (kv.1=k)).map (·.2)
def putK(kvs:List (κ×V))(k:κ)(v:V):List (κ×V) :=
 if (kvs.any fun kv=>decide (kv.1=k))=true then kvs.map (fun kv=>if kv.1=k then (kv.1,v) else kv) else kvs++[(k,v)]
theorem x_z{p:κ×V}{r:List (κ×V)}{k:κ}(e:p.1=k):valV (p::r) k=some p.2:=by simp [valV,List.find?_cons,e]
theorem x_y{p:κ×V}{r:List (κ×V)}{k:κ}(e:¬p.1=k):valV (p::r) k=valV r k:=by simp [valV,List.find?_cons,e]
theorem s_w(k:κ):∀ kvs:List (κ×V),(kvs.any fun kv=>decide (kv.1=k))=(valV kvs k).isSome
 | []=>rfl
 | p::r=>by
  rw [List.any_cons]
  by_cases e:p.1=k
  ·simp only [x_z e,decide_eq_true e,Bool.true_or,Option.isSome_some]
  ·rw [x_y e,decide_eq_false e,Bool.false_or];exact s_w k r
theorem j_b(k j:κ)(y:V):∀ kvs:List (κ×V),valV (kvs.map fun kv=>if kv.1=k then (kv.1,y) else kv) j=(valV kvs j).map fun x=>if j=k then y else x
 | []=>rfl
 | p::r=>by
  have ih:=j_b k j y r
  rw [List.map_cons]
  by_cases h:p.1=k
  ·rw [if_pos h]
   by_cases e:p.1=j
   ·rw [x_z (p:=(p.1,y)) e,x_z e,Option.map_some,if_pos (e.symm.trans h)]
   ·rw [x_y (p:=(p.1,y)) e,x_y e,ih]
  ·rw [if_neg h]
   by_cases e:p.1=j
   ·rw [x_z (p:=p) e,x_z e,Option.map_some,if_neg (fun z=>h (e.trans z))]
   ·rw [x_y (p:=p) e,x_y e,ih]
theorem m_d(k j:κ)(y:V):∀ kvs:List (κ×V),valV kvs k=none->valV (kvs++[(k,y)]) j=if j=k then some y else valV kvs j
 | [],_=>by
  by_cases e:k=j
  ·rw [if_pos e.symm];exact x_z (p:=(k,y)) e
  ·rw [if_neg (fun z=>e z.symm)];exact x_y (p:=(k,y)) e
 | p::r,hn=>by
  rw [List.cons_append]
  have hk:¬p.1=k:=fun z=>by rw [x_z z] at hn;cases hn
  rw [x_y hk] at hn
  have ih:=m_d k j y r hn
  by_cases e:p.1=j
  ·rw [x_z e,x_z e,if_neg (fun z=>hk (e.trans z))]
  ·rw [x_y e,x_y e,ih]
theorem s_a(kvs:List (κ×V))(k j:κ)(y:V):valV (putK kvs k y) j=if j=k then some y else valV kvs j:=by
 unfold putK
 by_cases a:(kvs.any fun kv=>decide (kv.1=k))=true
 ·rw [if_pos a,j_b]
  rw [s_w] at a
  by_cases e:j=k
  ·obtain ⟨x,hx⟩:=Option.isSome_iff_exists.mp a
   rw [if_pos e,e,hx,Option.map_some,if_pos rfl]
  ·rw [if_neg e]
   cases valV kvs j with
   | none=>rfl
   | some x=>rw [Option.map_some,if_neg e]
 ·rw [if_neg a]
  refine m_d k j y kvs ?_
  rw [s_w] at a
  cases q:valV kvs k with
  | none=>rfl
  | some x=>rw [q] at a;exact (a rfl).elim
theorem x_h(kvs:List (κ×V))(k:κ)(v:V):(putK kvs k v).length<=kvs.length+1:=by
 unfold putK
 split
 ·rw [List.length_map];lia
 ·rw [List.length_append,List.length_cons,List.length_nil];lia
theorem RelO.isSome_eq{o:Option V}{u:Option Value}(r:RelO o u):o.isSome=u.isSome:=by
 cases o with
 | none=>cases u with
  | none=>rfl
  | some _=>exact (show False from r).elim
 | some _=>cases u with
  | none=>exact (show False from r).elim
  | some _=>rfl
theorem RelO.getD{o:Option V}{u:Option Value}{d:V}{d':Value}(r:RelO o u)(rd:RelV d d'):RelV (o.getD d) (u.getD d'):=by
 cases o with
 | none=>cases u with
  | none=>exact rd
  | some _=>exact (show False from r).elim
 | some _=>cases u with
  | none=>exact (show False from r).elim
  | some _=>exact r
theorem KV.val{kvs:List (κ×V)}{vs:List (κ×Value)}(r:KV kvs vs)(k:κ):RelO (valV kvs k) (valueAt vs k):=by
 unfold KV at r
 induction r with
 | nil=>exact True.intro
 | @cons p q ps qs h t ih =>
  obtain ⟨h1,h2⟩:=h
  by_cases e:p.1=k
  ·have e':q.1=k:=h1.symm.trans e
   have b:valueAt (q::qs) k=some q.2:=by simp [valueAt,List.find?_cons,e']
   rw [x_z e,b];exact h2
  ·have e':¬q.1=k:=fun z=>e (h1.trans z)
   have b:valueAt (q::qs) k=valueAt qs k:=by simp [valueAt,List.find?_cons,e']
   rw [x_y e,b];exact ih
theorem KV.any{kvs:List (κ×V)}{vs:List (κ×Value)}(r:KV kvs vs)(k:κ):(kvs.any fun kv=>decide (kv.1=k))=vs.any fun kv=>decide (kv.1=k):=by
 unfold KV at r
 induction r with
 | nil=>rfl
 | cons h t ih=>rw [List.any_cons,List.any_cons,ih,h.1]
theorem KV.repl{kvs:List (κ×V)}{vs:List (κ×Value)}(r:KV kvs vs)(k:κ){y:V}{u:Value}(ry:RelV y u) :
  KV (kvs.map fun kv=>if kv.1=k then (kv.1,y) else kv) (vs.map fun kv=>if kv.1=k then (kv.1,u) else kv):=by
 unfold KV at r ⊢
 induction r with
 | nil=>exact .nil
 | @cons p q ps qs h t ih =>
  rw [List.map_cons,List.map_cons]
  refine .cons ?_ ih
  obtain ⟨h1,h2⟩:=h
  by_cases e:p.1=k
  ·rw [if_pos e,if_pos (h1.symm.trans e)];exact ⟨h1,ry⟩
  ·rw [if_neg e,if_neg (fun z=>e (h1.trans z))];exact ⟨h1,h2⟩
theorem KV.put{kvs:List (κ×V)}{vs:List (κ×Value)}(r:KV kvs vs)(k:κ){y:V}{u:Value}(ry:RelV y u):KV (putK kvs k y) (stored vs k u):=by
 unfold putK stored
 rw [r.any k]
 by_cases e:(vs.any fun kv=>decide (kv.1=k))=true
 ·rw [if_pos e,if_pos e];exact r.repl k ry
 ·rw [if_neg e,if_neg e];exact Paired.snoc r ⟨rfl,ry⟩
theorem KV.length{kvs:List (κ×V)}{vs:List (κ×Value)}(r:KV kvs vs):kvs.length=vs.length:=Paired.length r
end
theorem o_o{P:Program}{w:World}{k:Key}{u:Value}(r:RelV (kV k) u):(mixKind P w).is k u=true:=by
 cases k with
 | inl i=>obtain ⟨t,e⟩:=(show ∃ t,u=Value.int i t from r);subst e;exact m_s P w i t
 | inr x=>obtain ⟨t,e⟩:=(show ∃ t,u=Value.str x t from r);subst e;exact m_t P w x t
theorem o_n{P:Program}{w:World}:∀ {ks:List Key} {us:List Value},Vals (ks.map kV) us->ItemsAre (mixKind P w) ks us
 | [],_,r=>by rw [List.map_nil] at r;cases r;exact .nil
 | k::ks,_,r=>by
  rw [List.map_cons] at r
  cases r with
  | cons h t=>exact .cons (o_o h) (o_n t)
abbrev KT(H:Hp):List (List Key×V)->List (List Key×Addr×Value)->Prop:=Paired fun p q=>p.1=q.1/\H q.2.1=some (.tup (p.1.map kV))/\RelV p.2 q.2.2
theorem KT.val{H:Hp}{kvs:List (List Key×V)}{xs:List (List Key×Addr×Value)}(r:KT H kvs xs)(k:List Key):RelO (valV kvs k) ((atKey xs k).map (·.2)):=by
 induction r with
 | nil=>exact True.intro
 | @cons p q ps qs h t ih =>
  obtain ⟨h1,_,h2⟩:=h
  by_cases e:p.1=k
  ·have e':q.1=k:=h1.symm.trans e
   have b:atKey (q::qs) k=some q.2:=by simp [atKey,List.find?_cons,e']
   rw [x_z e,b];exact h2
  ·have e':¬q.1=k:=fun z=>e (h1.trans z)
   have b:atKey (q::qs) k=atKey qs k:=by simp [atKey,List.find?_cons,e']
   rw [x_y e,b];exact ih
theorem KT.repl{H:Hp}{kvs:List (List Key×V)}{xs:List (List Key×Addr×Value)}(r:KT H kvs xs)(k:List Key){y:V}{u:Value}(ry:RelV y u) :
  KT H (kvs.map fun kv=>if kv.1=k then (kv.1,y) else kv) (xs.map (putAt k u)):=by
 induction r with
 | nil=>exact .nil
 | @cons p q ps qs h t ih =>
  rw [List.map_cons,List.map_cons]
  refine .cons ?_ ih
  obtain ⟨h1,h2,h3⟩:=h
  unfold putAt
  by_cases e:p.1=k
  ·rw [if_pos e,if_pos (h1.symm.trans e)];exact ⟨h1,h2,ry⟩
  ·rw [if_neg e,if_neg (fun z=>e (h1.trans z))];exact ⟨h1,h2,h3⟩
theorem KT.put{H:Hp}{kvs:List (List Key×V)}{xs:List (List Key×Addr×Value)}(r:KT H kvs xs)(k:List Key){b:Addr}{y:V}{u:Value}(hb:H b=some (.tup (k.map kV)))(ry:RelV y u) :
  KT H (putK kvs k y) (storedH xs k b u):=by
 have e:(kvs.any fun kv=>decide (kv.1=k))=(atKey xs k).isSome:=by
  rw [s_w,(r.val k).isSome_eq,Option.isSome_map]
 unfold putK storedH
 rw [e]
 by_cases q:(atKey xs k).isSome=true
 ·rw [if_pos q,if_pos q];exact r.repl k ry
 ·rw [if_neg q,if_neg q];exact Paired.snoc r ⟨rfl,hb,ry⟩
theorem KT.keeps{H H':Hp}{kvs:List (List Key×V)}{xs:List (List Key×Addr×Value)}(r:KT H kvs xs)(ht:∀ b ys,H b=some (.tup ys)->H' b=some (.tup ys)):KT H' kvs xs :=
 Paired.mapP r fun _ _ z=>⟨z.1,ht _ _ z.2.1,z.2.2⟩
section
variable {P:Program} {w:World} {H:Hp} {h:Heap} {a:Addr}
theorem rd_of{u:HO}(ok:HOk P w H h)(e:Rd H a u):ObjOk P w H h a u:=e.ok ok
theorem m_l{kvs:List (Key×V)}(ok:HOk P w H h)(e:Rd H a (.dK kvs)):kvs.length<=sizeLine/\(a == sysModules)=false/\∃ vs,KV kvs vs/\h.DictOf (mixKind P w) a vs :=
 show ObjOk P w H h a (.dK kvs) from rd_of ok e
theorem dk_of{kvs:List (Key×V)}(ok:HOk P w H h)(e:H a=some (.dK kvs)):kvs.length<=sizeLine/\(a == sysModules)=false/\∃ vs,KV kvs vs/\h.DictOf (mixKind P w) a vs:=m_l ok (.inl e)
theorem q_l{ks:List Key}(ok:HOk P w H h)(e:H a=some (.tup (ks.map kV))):(tupleKind (mixKind P w)).is h ks a:=by
 obtain ⟨_,its,r,o,h1,h2,n,h3⟩:=(show ObjOk P w H h a (.tup (ks.map kV)) from ok a _ e)
 exact ⟨o,its.toArray,n,h1,h2,h3,by simpa using o_n r⟩
theorem m_m{kvs:List (List Key×V)}(ok:HOk P w H h)(e:Rd H a (.dT kvs)):kvs.length<=sizeLine/\(a == sysModules)=false /\
  ∃ xs,KT H kvs xs/\h.DictOfH (tupleKind (mixKind P w)) a xs:=by
 obtain ⟨z,y,xs,r,o,es,ep,h1,h2,h3,h4,h5⟩:=(show ObjOk P w H h a (.dT kvs) from rd_of ok e)
 refine ⟨z,y,xs,r,o,es,ep,h1,h2,h3,h4,fun x hx=>?_,h5⟩
 have all:∀ {l:List (List Key×V)} {m:List (List Key×Addr×Value)},KT H l m->∀ x∈m,(tupleKind (mixKind P w)).is h x.1 x.2.1:=by
  intro l m q
  induction q with
  | nil=>intro x hx;exact nomatch hx
  | @cons p q ps qs hq t ih =>
   intro x hx
   rcases List.mem_cons.mp hx with e | hx
   ·subst e
    exact q_l ok (by rw [<-hq.1];exact hq.2.1)
   ·exact ih x hx
 exact all r x hx
theorem dt_of{kvs:List (List Key×V)}(ok:HOk P w H h)(e:H a=some (.dT kvs)):kvs.length<=sizeLine/\(a == sysModules)=false /\
  ∃ xs,KT H kvs xs/\h.DictOfH (tupleKind (mixKind P w)) a xs:=m_m ok (.inl e)
end
def DGet(H:Hp)(a:Addr)(y:V)(r:Option V):Prop :=
 (∃ kvs k,Rd H a (.dK kvs)/\y=kV k/\r=valV kvs k)\/∃ kvs k b,Rd H a (.dT kvs)/\y = .ref b/\H b=some (.tup (k.map kV))/\r=valV kvs k
def DPut(H:Hp)(a:Addr)(y v:V)(H':Hp):Prop :=
 (∃ kvs k,H a=some (.dK kvs)/\y=kV k/\kvs.length<sizeLine/\H'=upd H a (.dK (putK kvs k v))) \/
 ∃ kvs k b,H a=some (.dT kvs)/\y = .ref b/\H b=some (.tup (k.map kV))/\kvs.length<sizeLine/\H'=upd H a (.dT (putK kvs k v))
theorem DGet.k{H:Hp}{a:Addr}{kvs:List (Key×V)}{k:Key}(e:H a=some (.dK kvs)):DGet H a (kV k) (valV kvs k):=.inl ⟨kvs,k,.inl e,rfl,rfl⟩
theorem DPut.k{H:Hp}{a:Addr}{kvs:List (Key×V)}{k:Key}{v:V}(e:H a=some (.dK kvs))(hl:kvs.length<sizeLine):DPut H a (kV k) v (upd H a (.dK (putK kvs k v))):=.inl ⟨kvs,k,e,rfl,hl,rfl⟩
section
variable {X:Cx} {pins:List (Addr×Obj)} {σ:St} {H:Hp} {s:Shared} {a:Addr} {y v:V} {u r:Value} {o:Option V} {A:Around} {E:Value->Shared->Prop}
theorem Inv.big(I:Inv X pins σ H s):sysModules<s.heap.objs.size:=by
 have h:mainGlobals<s.heap.objs.size:=(I.mod.glob.keeps I.bk).lt
 exact Nat.lt_trans (by decide) h
theorem i_z{Q:Value->Shared->Prop}(hu:A.units+1<cLine)(I:Inv X pins σ H s)(g:DGet H a y (some v))(ry:RelV y u)(h:∀ w' s',Inv X pins σ H s'->RelV v w'->Q w' s') :
  wpAny (model X.prog X.w) A (getItem (.ref a) u) Q E s:=by
 rcases g with ⟨kvs,k,e,ey,l⟩ | ⟨kvs,k,b,e,ey,eb,l⟩
 ·subst ey
  obtain ⟨z,hd,vs,rel,dd⟩:=m_l I.hok e
  obtain ⟨w',hw,rw'⟩:=RelO.some_of (v:=v) (o:=valueAt vs k) (by rw [l];exact rel.val k)
  exact wpAny_getItem_of (o_o ry) dd.mapOf hw (h w' _ (I.tok _) rw')
 ·subst ey
  cases (show u=Value.ref b from ry)
  obtain ⟨z,hd,xs,rel,dd⟩:=m_m I.hok e
  obtain ⟨w',hw,rw'⟩:=RelO.some_of (v:=v) (o:=(atKey xs k).map (·.2)) (by rw [l];exact rel.val k)
  obtain ⟨p,hp,hp2⟩:=Option.map_eq_some_iff.mp hw
  refine wpAny_getItem_heap (tupleKind_room_in1 hu) (q_l I.hok eb) dd hp ?_
  rw [hp2]
  exact h w' _ (I.tok _) rw'
theorem d_in{Q:Value->Shared->Prop}(hu:A.units+1<cLine)(I:Inv X pins σ H s)(g:DGet H a y o)(ry:RelV y u)(h:∀ s',Inv X pins σ H s'->Q (.bool o.isSome) s') :
  wpAny (model X.prog X.w) A (compareOp .In u (.ref a)) Q E s:=by
 rcases g with ⟨kvs,k,e,ey,l⟩ | ⟨kvs,k,b,e,ey,eb,l⟩
 ·subst ey
  obtain ⟨z,hd,vs,rel,dd⟩:=m_l I.hok e
  refine wpAny_in_of (o_o ry) hd dd.mapOf ?_
  rw [<-(rel.val k).isSome_eq,<-l]
  exact h _ (I.tok _)
 ·subst ey
  cases (show u=Value.ref b from ry)
  obtain ⟨z,hd,xs,rel,dd⟩:=m_m I.hok e
  refine wpAny_in_heap (tupleKind_room_in1 hu) (q_l I.hok eb) hd dd ?_
  have q:=(rel.val k).isSome_eq
  rw [Option.isSome_map] at q
  rw [<-q,<-l]
  exact h _ (I.tok _)
theorem m_j{h':Heap}{t':Nat}{ob:HO}(I:Inv X pins σ H s)(mu:Mut (H a))(hs:Heap.SameBut a s.heap h')(he:∃ q,h'.get? a=some q)(new:ObjOk X.prog X.w (upd H a ob) h' a ob) :
  Inv X pins σ (upd H a ob) { s with heap:=h',toks:=t' } :=
 I.write (x:=a) (e:=a) mu (.inl rfl) (fun b q hb z=>(hs.2 b hb).trans z) he new
theorem dk_new{P:Program}{w:World}{H':Hp}{h':Heap}{kvs:List (Key×V)}{vs:List (Key×Value)}(z:kvs.length<=sizeLine)(hd:(a == sysModules)=false)(rel:KV kvs vs)(dd:h'.DictOf (mixKind P w) a vs) :
  ObjOk P w H' h' a (.dK kvs):=⟨z,hd,vs,rel,dd⟩
theorem h_a{H':Hp}{Q:Unit->Shared->Prop}(hu:A.units+1<cLine)(I:Inv X pins σ H s)(g:DPut H a y v H')(ry:RelV y u)(rv:RelV v r)(h:∀ s',Inv X pins σ H' s'->Q () s') :
  wpAny (model X.prog X.w) A (setItem (.ref a) u r) Q E s:=by
 rcases g with ⟨kvs,k,e,ey,l,eH⟩ | ⟨kvs,k,b,e,ey,eb,l,eH⟩
 ·subst ey eH
  obtain ⟨z,hd,vs,rel,dd⟩:=dk_of I.hok e
  have hz:vs.length<=sizeLine:=by rw [<-rel.length];exact z
  have hl:(putK kvs k v).length<=sizeLine:=by have:=x_h kvs k v;lia
  refine wpAny_setItem_pairs (hsz:=hz) (o_o ry) dd fun h' dd' hs=>h _ ?_
  have he:∃ q,h'.get? a=some q:=let ⟨q,_,_,hq,_⟩:=dd';⟨q,hq⟩
  exact m_j I (by rw [e];exact True.intro) hs he (dk_new hl hd (rel.put k rv) dd')
 ·subst ey eH
  cases (show u=Value.ref b from ry)
  obtain ⟨z,hd,xs,rel,dd⟩:=dt_of I.hok e
  have hz:xs.length<=sizeLine:=by rw [<-Paired.length rel];exact z
  have hl:(putK kvs k v).length<=sizeLine:=by have:=x_h kvs k v;lia
  refine wpAny_setItem_heap (hsz:=hz) (tupleKind_room_in1 hu) (q_l I.hok eb) dd fun h' dd' hs=>h _ ?_
  obtain ⟨q,es,ep,hq,h2,h3,h4,_,h5⟩:=dd'
  refine m_j I (by rw [e];exact True.intro) hs ⟨q,hq⟩ ⟨hl,hd,_,(rel.put k eb rv).keeps fun c ys ec=>?_,q,es,ep,hq,h2,h3,h4,h5⟩
  rw [z_r (ne_of ec e (fun z=>nomatch z))]
  exact ec
end
def NoSl(i:Expr):Prop:=∀ ov iv,subscripted i false ov iv=operate [ov,iv] (getItem ov iv)
theorem subD_of{prog:Program}{w:World}{A:Around}{E:Value->Shared->Prop}{s:Shared}{env:Env}{value slice:Expr}{pos:Pos}{T id:String}{Q:Value->Shared->Prop}
  (hl:typeLookup (.type T) "__getitem__" = pure (some (.builtin id))) (hs:NoSl slice)
  (h:wpAny (model prog w) A (eval value env) (fun o s₁=>wpAny (model prog w) A (eval slice env) (fun i s₂=>s₂.TypeIs o T/\wpAny (model prog w) A (getItem o i) Q E s₂) E s₁) E s) :
  wpAny (model prog w) A (eval (.Subscript value slice pos) env) Q E s:=by
 refine Subscript_ (wpAny_mono h (fun o s₁ h₁=>wpAny_mono h₁ (fun i s₂ h₂=>?_) fun _ _ x=>x) fun _ _ x=>x)
 obtain ⟨hT,h₂⟩:=h₂
 unfold subscriptTail
 refine wpAny_bind ?_
 rw [getitemInPython_of_ne hT.not_modules]
 refine wpAny_bind (wpAny_specialOf hT hl ?_)
 have fin:wpAny (model prog w) A (subscripted slice false o i) (fun r s₃=>wpAny (model prog w) A (letTemporaryGo value o r >>= fun _=>pure r) Q E s₃) E s₂:=by
  rw [hs o i]
  exact wpAny_operating (wpAny_mono h₂ (fun r s₃ h₃=>wpAny_bind (wpAny_letTemporaryGo (wpAny_pure h₃))) fun _ _ x=>x)
 first
  | exact wpAny_pure (wpAny_bind fin)
  | exact wpAny_bind (wpAny_pure (wpAny_bind fin))
  | exact wpAny_bind fin
theorem m_k{X:Cx}{pins:List (Addr×Obj)}{σ:St}{H:Hp}{s:Shared}{a:Addr}{y:V}{o:Option V}(I:Inv X pins σ H s)(g:DGet H a y o):s.TypeIs (.ref a) "dict" := by
 rcases g with ⟨kvs,k,e,_,_⟩ | ⟨kvs,k,b,e,_,_,_⟩
 ·obtain ⟨_,_,vs,_,dd⟩:=m_l I.hok e
  exact dd.typeIs
 ·obtain ⟨_,_,xs,_,dd⟩:=m_m I.hok e
  exact dd.typeIs
def tDGet(td ty:TE):TE:=fun σ H Q=>td σ H fun x H1=>ty σ H1 fun y H2=>∃ a v,x = .ref a/\DGet H2 a y (some v)/\Q v H2
def tDIn(ty td:TE):TE:=fun σ H Q=>ty σ H fun y H1=>td σ H1 fun x H2=>∃ a o,x = .ref a/\DGet H2 a y o/\Q (.bl o.isSome) H2
def sDPut(td ty tv:TE):TS:=fun D σ H=>tv σ H fun v H1=>td σ H1 fun x H2=>ty σ H2 fun y H3=>∃ a H4,x = .ref a/\DPut H3 a y v H4/\D.nx σ H4
section
variable {X:Cx} {o i e value:Expr} {pos pos' tpos:Pos} {td ty tv:TE}
theorem l_f(hu:X.A.units+1<cLine)(ho:PE X o td)(hi:PE X i ty)(hs:NoSl i):PE X (.Subscript o i pos) (tDGet td ty):=by
 intro pins s σ H Q I h
 refine subD_of PySem.F.slot_dict_getitem.lookup hs (thn (ho pins s σ H _ I h) fun u s1 ⟨x,H1,I1,rx,q1⟩=>thn (hi pins s1 σ H1 _ I1 q1) fun iv s2 ⟨y,H2,I2,ry,a,v,ex,g,q2⟩=>?_)
 subst ex
 obtain rfl:u=Value.ref a:=rx
 exact ⟨m_k I2 g,i_z hu I2 g ry fun w' s3 I3 rw'=>⟨v,H2,I3,rw',q2⟩⟩
theorem pc_din(hu:X.A.units+1<cLine)(hi:PE X i ty)(ho:PE X o td):PC X .In i o (tDIn ty td):=by
 intro pins s σ H Q I h
 refine thn (hi pins s σ H _ I h) fun iv s1 ⟨y,H1,I1,ry,q1⟩=>thn (ho pins s1 σ H1 _ I1 q1) fun u s2 ⟨x,H2,I2,rx,a,ov,ex,g,q2⟩=>?_
 subst ex
 obtain rfl:u=Value.ref a:=rx
 exact d_in hu I2 g ry fun s3 I3=>⟨.bl ov.isSome,H2,I3,rfl,q2⟩
theorem p_k(hu:X.A.units+1<cLine)(ho:PE X o td)(hi:PE X i ty)(hv:PE X value tv)(hs:swapsWith value (some (.Subscript o i pos')) pos.line X.env=pure false) :
  PS X (.Assign [.Subscript o i pos'] value pos) (sDPut td ty tv):=by
 intro pins s σ H D I h
 refine wpAny_Assign_Subscript (thn (hv pins s σ H _ I h) fun r s1 ⟨v,H1,I1,rv,q1⟩=>thn (ho pins s1 σ H1 _ I1 q1) fun u s2 ⟨x,H2,I2,rx,q2⟩=>thn (hi pins s2 σ H2 _ I2 q2) fun iv s3 ⟨y,H3,I3,ry,a,H4,ex,g,q3⟩=>?_) hs
 subst ex
 obtain rfl:u=Value.ref a:=rx
 exact h_a hu I3 g ry rv fun s4 I4=>⟨σ,H4,I4,q3⟩
end
theorem l_w{P:Program}{w:World}{H:Hp}(h:Heap)(hb:sysModules<h.objs.size):ObjOk P w H (h.push { cls:=.type "dict",data:=.dict #[] }) h.objs.size (.dK []) :=
 ⟨Nat.zero_le _,beq_eq_false_iff_ne.mpr (Ne.symm (Nat.ne_of_lt hb)),[],.nil,Heap.DictOf.new h⟩
def tDNewK:TE:=fun _ H Q=>∀ p,H p=none->Q (.ref p) (upd H p (.dK []))
section
variable {X:Cx} {pos:Pos}
theorem pe_dnewK:PE X (.Dict [] [] pos) tDNewK:=fun pins s σ H Q I h =>
 wpAny_Dict_empty ⟨.ref s.heap.objs.size,_,I.laid (a:=s.heap.objs.size) (o:=.dK []) (t':=s.toks) (fun _ _ q=>Heap.get?_push_of_some _ q) (Nat.le_refl _) (l_w s.heap I.big),rfl,h _ (I.hok.fresh (Nat.le_refl _))⟩
end
def tPairs:List (TE×TE)->St->Hp->(List (V×V)->Hp->Prop)->Prop
 | [],_,H,Q=>Q [] H
 | (tk,tv)::r,σ,H,Q=>tk σ H fun x H1=>tv σ H1 fun y H2=>tPairs r σ H2 fun ps H3=>Q ((x,y)::ps) H3
abbrev VV:List (V×V)->List (Value×Value)->Prop:=Paired fun p q=>RelV p.1 q.1/\RelV p.2 q.2
def PPs(X:Cx)(pos:Pos)(keys:List (Option Expr))(values:List Expr)(trs:List (TE×TE)):Prop :=
 ∀ (pins:List (Addr×Obj)) (s:Shared) (σ:St) (H:Hp) (Q:List (V×V)->Hp->Prop),Inv X pins σ H s->tPairs trs σ H Q ->
  wpAny (model X.prog X.w) X.A (evalPairs (pairTrees keys values X.env pos)) (fun vs s'=>∃ ps H',Inv X pins σ H' s'/\VV ps vs/\Q ps H') X.xe s
theorem g_u{X:Cx}{pos:Pos}:PPs X pos [] [] []:=fun pins s σ H Q I h=>pairTrees_nil_walk ⟨[],H,I,.nil,h⟩
theorem s_t{X:Cx}{pos:Pos}{k v:Expr}{ks:List (Option Expr)}{vs:List Expr}{tk tv:TE}{trs:List (TE×TE)}(hk:PE X k tk)(hv:PE X v tv)(hr:PPs X pos ks vs trs) :
  PPs X pos (some k::ks) (v::vs) ((tk,tv)::trs):=fun pins s σ H Q I h =>
 pairTrees_cons_walk (thn (hk pins s σ H _ I h) fun u s1 ⟨x,H1,I1,rx,q1⟩=>thn (hv pins s1 σ H1 _ I1 q1) fun w2 s2 ⟨y,H2,I2,ry,q2⟩ =>
  thn (hr pins s2 σ H2 _ I2 q2) fun ws s3 ⟨ps,H3,I3,rel,q3⟩=>⟨(x,y)::ps,H3,I3,.cons ⟨rx,ry⟩ rel,q3⟩)
def mergeK(kvs more:List (Key×V)):List (Key×V):=more.foldl (fun acc kv=>putK acc kv.1 kv.2) kvs
theorem KV.merge:∀ {more:List (Key×V)} {rs:List (Key×Value)} {kvs:List (Key×V)} {vs:List (Key×Value)},KV more rs->KV kvs vs->KV (mergeK kvs more) (merged vs rs):=by
 intro more rs kvs vs r
 unfold KV at r
 induction r generalizing kvs vs with
 | nil=>intro q;exact q
 | @cons p q ps qs h t ih =>
  intro r0
  have e:KV (putK kvs p.1 p.2) (stored vs q.1 q.2):=by
   have:=r0.put p.1 h.2
   rw [<-h.1];exact this
  exact ih e
theorem t_n:∀ (more kvs:List (Key×V)),(mergeK kvs more).length<=kvs.length+more.length
 | [],kvs=>by show kvs.length<=kvs.length+0;lia
 | p::r,kvs=>by
  have h1:=t_n r (putK kvs p.1 p.2)
  have h2:=x_h kvs p.1 p.2
  show (mergeK (putK kvs p.1 p.2) r).length<=_
  rw [List.length_cons];lia
theorem q_j{P:Program}{w:World}:∀ {kvs:List (Key×V)} {ws:List (Value×Value)},VV (kvs.map fun kv=>(kV kv.1,kv.2)) ws->∃ rs,Carries (mixKind P w) ws rs/\KV kvs rs
 | [],_,r=>by rw [List.map_nil] at r;cases r;exact ⟨[],True.intro,.nil⟩
 | p::kvs,_,r=>by
  rw [List.map_cons] at r
  cases r with
  | @cons a b as bs h t =>
   obtain ⟨rs,c,q⟩:=q_j (P:=P) (w:=w) t
   obtain ⟨b1,b2⟩:=b
   exact ⟨(p.1,b2)::rs,⟨o_o h.1,rfl,c⟩,.cons ⟨rfl,h.2⟩ q⟩
def tDisp(trs:List (TE×TE)):TE:=fun σ H Q=>∀ p,H p=none->tPairs trs σ (upd H p (.dK [])) fun ps H2=>H2 p=some (.dK [])/\∃ kvs:List (Key×V),ps=kvs.map (fun kv=>(kV kv.1,kv.2))/\kvs.length<=15/\Q (.ref p) (upd H2 p (.dK (mergeK [] kvs)))
theorem g_l{X:Cx}{pos:Pos}{keys:List (Option Expr)}{values:List Expr}{trs:List (TE×TE)}(h:PPs X pos keys values trs)(hall:keys.all (·.isSome)=true)(hl:keys.length=values.length)(h0:keys≠[])
  (h15:keys.length<=15):PE X (.Dict keys values pos) (tDisp trs):=by
 intro pins s σ H Q I q
 have hn:=I.hok.fresh (Nat.le_refl s.heap.objs.size)
 have I1:=I.laid (a:=s.heap.objs.size) (o:=.dK []) (h':=s.heap.push { cls:=.type "dict",data:=.dict #[] }) (t':=s.toks) (fun _ _ q=>Heap.get?_push_of_some _ q) (Nat.le_refl _) (l_w s.heap I.big)
 refine wpAny_Dict_walk (knd:=mixKind X.prog X.w) hall hl h0 h15 (thn (h pins _ σ _ _ I1 (q _ hn)) fun ws s2 ⟨ps,H2,I2,rel,e,kvs,ep,lk,q2⟩=>?_)
 subst ep
 obtain ⟨rs,c,rk⟩:=q_j (P:=X.prog) (w:=X.w) rel
 obtain ⟨z,hd,vs0,r0,dd⟩:=dk_of I2.hok e
 cases r0
 refine ⟨rs,c,dd,fun h' dd' hs=>⟨.ref s.heap.objs.size,_,?_,rfl,q2⟩⟩
 have hz:(mergeK [] kvs).length<=sizeLine:=by
  have h1:=t_n kvs []
  rw [List.length_nil] at h1
  rw [sizeLine_eq];lia
 have he:∃ q,h'.get? s.heap.objs.size=some q:=let ⟨q,_,_,hq,_⟩:=dd';⟨q,hq⟩
 exact m_j I2 (by rw [e];exact True.intro) hs he (dk_new hz hd (rk.merge .nil) dd')
structure M1(X:Cx)(o:Expr)(m:Str)(apos:Pos)(e:Expr)(cpos:Pos):Prop where
 base:attributeBase o m X.env (eval o X.env)=eval o X.env
 few:((backTo cpos (starEach [e] X.env)).all (fun x=>!x.1)&&(backToKw cpos (keywordEach [] X.env)).all (fun x=>x.1.isSome)
  && decide (([e]:List Expr).length+([]:List Keyword).length+(if ([]:List Keyword).isEmpty then 0 else 1)<30))=true
 line:(apos.endLine == cpos.line)=true
 trees:backTo cpos (starEach [e] X.env)=[(false,eval e X.env)]
structure M2(X:Cx)(o:Expr)(m:Str)(apos:Pos)(e f:Expr)(cpos:Pos):Prop where
 base:attributeBase o m X.env (eval o X.env)=eval o X.env
 few:((backTo cpos (starEach [e,f] X.env)).all (fun x=>!x.1)&&(backToKw cpos (keywordEach [] X.env)).all (fun x=>x.1.isSome)
  && decide (([e,f]:List Expr).length+([]:List Keyword).length+(if ([]:List Keyword).isEmpty then 0 else 1)<30))=true
 line:(apos.endLine == cpos.line)=true
 trees:backTo cpos (starEach [e,f] X.env)=[(false,eval e X.env),(false,eval f X.env)]
def IsD(H:Hp)(a:Addr):Prop:=(∃ kvs,Rd H a (.dK kvs))\/∃ kvs,Rd H a (.dT kvs)
theorem isD_at{X:Cx}{pins:List (Addr×Obj)}{σ:St}{H:Hp}{s:Shared}{a:Addr}(I:Inv X pins σ H s)(d:IsD H a) :
  s.TypeIs (.ref a) "dict" /\ (∀ b,Value.ref a = .ref b->∃ ob,s.heap.get? b=some ob/\ob.dict=none)/\(a == sysModules)=false:=by
 rcases d with ⟨kvs,e⟩ | ⟨kvs,e⟩
 ·obtain ⟨_,hd,vs,_,dd⟩:=m_l I.hok e
  refine ⟨dd.typeIs,fun b q=>?_,hd⟩
  cases q
  obtain ⟨ob,_,_,h1,h2,_⟩:=dd
  exact ⟨ob,h1,h2.2.1⟩
 ·obtain ⟨_,hd,xs,_,dd⟩:=m_m I.hok e
  refine ⟨dd.typeIs,fun b q=>?_,hd⟩
  cases q
  obtain ⟨ob,_,_,h1,h2,_⟩:=dd
  exact ⟨ob,h1,h2.2.1⟩
section
variable {X:Cx} {pins:List (Addr×Obj)} {σ:St} {H:Hp} {s:Shared} {a:Addr} {y d:V} {u r:Value} {o:Option V} {A:Around} {E:Value->Shared->Prop}
theorem d_get1{Q:Value->Shared->Prop}(hu:A.units+1<cLine)(I:Inv X pins σ H s)(g:DGet H a y o)(ry:RelV y u)(h:∀ w' s',Inv X pins σ H s'->RelV (o.getD .non) w'->Q w' s') :
  wpAny (model X.prog X.w) A (call (.builtin "dict.get") [.ref a,u]) Q E s:=by
 rcases g with ⟨kvs,k,e,ey,l⟩ | ⟨kvs,k,b,e,ey,eb,l⟩
 ·subst ey
  obtain ⟨z,hd,vs,rel,dd⟩:=m_l I.hok e
  refine call_meetsIn PySem.F.slot_dict_get dd.typeIs PySem.F.entry_dict_get (PySem.F.args_dict_get_2 _ _) (meets_dict_get (mixKind X.prog X.w) a (o_o ry) hd) ⟨_,dd.mapOf,h _ _ (I.tok _) ?_⟩
  rw [l]
  exact (rel.val k).getD rfl
 ·subst ey
  cases (show u=Value.ref b from ry)
  obtain ⟨z,hd,xs,rel,dd⟩:=m_m I.hok e
  refine call_meetsIn PySem.F.slot_dict_get dd.typeIs PySem.F.entry_dict_get (PySem.F.args_dict_get_2 _ _) (meetsH_dict_get (tupleKind (mixKind X.prog X.w)) a b hd) ⟨tupleKind_room_in1 hu,k,xs,q_l I.hok eb,dd,h _ _ (I.tok _) ?_⟩
  rw [l]
  exact (rel.val k).getD rfl
theorem d_get2{Q:Value->Shared->Prop}(hu:A.units+1<cLine)(I:Inv X pins σ H s)(g:DGet H a y o)(ry:RelV y u)(rd:RelV d r)(h:∀ w' s',Inv X pins σ H s'->RelV (o.getD d) w'->Q w' s') :
  wpAny (model X.prog X.w) A (call (.builtin "dict.get") [.ref a,u,r]) Q E s:=by
 rcases g with ⟨kvs,k,e,ey,l⟩ | ⟨kvs,k,b,e,ey,eb,l⟩
 ·subst ey
  obtain ⟨z,hd,vs,rel,dd⟩:=m_l I.hok e
  refine call_meetsIn PySem.F.slot_dict_get dd.typeIs PySem.F.entry_dict_get (PySem.F.args_dict_get_3 _ _ _) (meets_dict_get_default (mixKind X.prog X.w) a (o_o ry) hd r) ⟨_,dd.mapOf,h _ _ (I.tok _) ?_⟩
  rw [l]
  exact (rel.val k).getD rd
 ·subst ey
  cases (show u=Value.ref b from ry)
  obtain ⟨z,hd,xs,rel,dd⟩:=m_m I.hok e
  refine call_meetsIn PySem.F.slot_dict_get dd.typeIs PySem.F.entry_dict_get (PySem.F.args_dict_get_3 _ _ _) (meetsH_dict_get_default (tupleKind (mixKind X.prog X.w)) a b hd r) ⟨tupleKind_room_in1 hu,k,xs,q_l I.hok eb,dd,h _ _ (I.tok _) ?_⟩
  rw [l]
  exact (rel.val k).getD rd
end
def tDGet1(td ty:TE):TE:=fun σ H Q=>td σ H fun x H1=>∃ a,x = .ref a/\IsD H1 a/\ty σ H1 fun y H2=>∃ o,DGet H2 a y o/\Q (o.getD .non) H2
def tDGet2(td ty tx:TE):TE:=fun σ H Q=>td σ H fun x H1=>∃ a,x = .ref a/\IsD H1 a/\ty σ H1 fun y H2=>tx σ H2 fun z H3=>∃ o,DGet H3 a y o/\Q (o.getD z) H3
section
variable {X:Cx} {o e f:Expr} {apos cpos:Pos} {td ty tx:TE}
theorem pe_dget1(hu:X.A.units+1<cLine)(ho:PE X o td)(he:PE X e ty)(m:M1 X o "get" apos e cpos):PE X (.Call (.Attribute o "get" apos) [e] [] cpos) (tDGet1 td ty):=by
 intro pins s σ H Q I h
 refine wpAny_Call_method m.base m.few m.line PySem.F.plainAttrs_dict PySem.F.slot_dict_get PySem.F.type_dict_get (thn (ho pins s σ H _ I h) fun u s1 ⟨x,H1,I1,rx,a,ex,d,q1⟩=>?_)
 subst ex
 obtain rfl:u=Value.ref a:=rx
 obtain ⟨t1,t2,_⟩:=isD_at I1 d
 refine ⟨t1,t2,?_⟩
 rw [m.trees]
 refine Calls.callWith_builtin rfl (Calls.evalArgs_plain (Calls.spliced_cons (thn (he pins s1 σ H1 _ I1 q1) fun iv s2 ⟨y,H2,I2,ry,ov,g,q2⟩=>Calls.spliced_nil ?_)))
 exact d_get1 hu I2 g ry fun w' s3 I3 rw'=>⟨_,H2,I3,rw',q2⟩
theorem pe_dget2(hu:X.A.units+1<cLine)(ho:PE X o td)(he:PE X e ty)(hf:PE X f tx)(m:M2 X o "get" apos e f cpos):PE X (.Call (.Attribute o "get" apos) [e,f] [] cpos) (tDGet2 td ty tx):=by
 intro pins s σ H Q I h
 refine wpAny_Call_method m.base m.few m.line PySem.F.plainAttrs_dict PySem.F.slot_dict_get PySem.F.type_dict_get (thn (ho pins s σ H _ I h) fun u s1 ⟨x,H1,I1,rx,a,ex,d,q1⟩=>?_)
 subst ex
 obtain rfl:u=Value.ref a:=rx
 obtain ⟨t1,t2,_⟩:=isD_at I1 d
 refine ⟨t1,t2,?_⟩
 rw [m.trees]
 refine Calls.callWith_builtin rfl (Calls.evalArgs_plain (Calls.spliced_cons (thn (he pins s1 σ H1 _ I1 q1) fun iv s2 ⟨y,H2,I2,ry,q2⟩ =>
  Calls.spliced_cons (thn (hf pins s2 σ H2 _ I2 q2) fun fv s3 ⟨z,H3,I3,rz,ov,g,q3⟩=>Calls.spliced_nil ?_))))
 exact d_get2 hu I3 g ry rz fun w' s4 I4 rw'=>⟨_,H3,I4,rw',q3⟩
end
end L2
namespace Att
open PySem PySem.W PySem.Calls PyProof.Rows
theorem r_d{P:Params}{h:Heap}:∀ (ns:List Int) (vs:List Value),WellAll P h vs (ns.map WData.int)->IntsAre vs ns:=by
 intro ns
 induction ns with
 | nil =>
  intro vs w
  rw [List.map_nil] at w
  cases w
  exact .nil
 | cons n ns ih =>
  intro vs w
  rw [List.map_cons] at w
  cases w with
  | cons a b =>
   cases a
   exact .cons _ _ (ih _ b)
theorem f_e{l:OpenLaw}{n:Nat}(hn:l.most=some n){P:Params}{h:Heap}{args:List WData}{vals:List Value}
  (hpre:l.row.toRowW.claim.pre args=true) (hwl:WellAll P h vals args) :
  ∃ a vs ns,vals=[Value.ref a]/\args=[WData.list (ns.map WData.int)]/\h.get? a=some { cls:=.type "list",data:=.seq vs.toArray }/\IntsAre vs ns/\ns.length<=n:=by
 have hsh:WShape.hasAll [] args [.list .int]=true:=(pre_splitW hpre).1
 have hc:l.pre.holds [] { args:=args }=true:=(pre_splitW hpre).2
 obtain ⟨d,r,rfl,h1,h2⟩:=hasAllW_cons hsh
 obtain rfl:=hasAllW_nil h2
 obtain ⟨xs,rfl,h3⟩:=hasW_list h1
 obtain ⟨ns,rfl⟩:=items_int h3
 have hlen:ns.length<=n:=by
  unfold OpenLaw.pre at hc
  have h4:(WTm.not (.lt (.lit (.int (n:Int))) (.len (.arg 0)))).holds [] { args:=[.list (ns.map .int)] }=true:=by
   have h4:=(holds_andW hc).1
   rw [hn] at h4
   exact h4
  have h5:=condW_of h4 (w_not (w_lt w_lit (w_len_list (w_arg rfl))))
  rw [List.length_map] at h5
  refine Nat.le_of_not_lt fun q=>?_
  have q':(n:Int)<((ns.length:Nat):Int):=by lia
  first
   | (rw [decide_eq_true q'] at h5;exact absurd h5 (by decide))
   | (simp at h5;lia)
 cases hwl with
 | cons w1 w2 =>
  cases w2
  cases w1 with
  | list ho hall=>exact ⟨_,_,ns,rfl,rfl,ho,r_d ns _ hall,hlen⟩
theorem g_t(l:OpenLaw)(args:List WData):l.row.toRowW.claim.post args (.bool true) args=true :=
 postW_of (r:=l.row.toRowW) (X:=(true == true))
  (show WShape.has [] (.bool true) .bool=true by first | rfl | decide | simp [WShape.has,WShape.arms,WShape.armsAll])
  (show (WTm.eq .res (.lit (.bool true))).value [] { args:=args,res:=some (.bool true),after:=args }=some (.bool (true == true)) from w_eq_bool (w_res rfl) w_lit) rfl
theorem attach_call{l:OpenLaw}{n:Nat}{q:Program}{loose:List Str}{XP:(Str->Option Value)->Heap->Prop}{YP:World->Heap->Prop}{d:DefRec}
  (hn:l.most=some n) (hdf:d.params.defaults=[])
  (call:∀ (w:World) (s₀ s₁:Shared) (mg mb:Str->Option Value) (fa:Addr) (o:Obj) (pm cd doc:Value) (a:Addr) (vs:List Value) (ns:List Int),
   Ground q loose [] XP w s₀ mg mb s₁.heap->YP w s₁.heap ->
   s₁.heap.get? fa=some o->o.data = .func (docDef d.name d.params d.body d.scope pm cd doc)->s₁.heap.CodeRec cd d.name->mg d.name=some (.ref fa) ->
   s₁.heap.get? a=some { cls:=.type "list",data:=.seq vs.toArray }->IntsAre vs ns->ns.length<=n->s₁.gens = #[] ->
   codeAny (model l.prog w) callerA (.call (.ref fa) ⟨[.ref a],[]⟩) (fun r s'=>r = .ok (.ret (.bool true))/\OldK s₁.heap s'.heap/\s'.os=s₁.os/\AllBare s'.gens) s₁) :
  WalkO q loose XP YP l.row.toRowW d [] (fun f vs=>PySem.call f vs):=by
 intro w s₀ s₁ mg mb G Y fa o pm cd doc dV kV ho hd hcd hD hmg hg args vals as hpre hlay hrd hwl hlo
 obtain rfl:dV = .none:=Dflts.none hD hdf
 obtain rfl:kV = .none:=Dflts.noKw hD
 obtain ⟨a,vs,ns,rfl,rfl,hobj,hints,hlen⟩:=f_e hn hpre hwl
 refine enter_call (codeAny_mono (call w s₀ s₁ mg mb fa o pm cd doc a vs ns G Y ho (fd_plain hd) hcd hmg hobj hints hlen hg) fun r s' hq=>?_)
 obtain ⟨rfl,h2,h3,h4⟩:=hq
 exact ⟨.inl ⟨.bool true,.bool true,[],rfl,fun _=>rfl,.bool true,g_t l _,fun _=>⟨List.Pairwise.nil,fun _ hm=>(nomatch hm)⟩⟩,h2,h3,h4⟩
end Att
namespace L2
open PySem PySem.Spec PyProof.Rows
theorem q_d:∀ {vs:List Value} {ns:List Int},IntsAre vs ns->Vals (ns.map V.int) vs
 | _,_,.nil=>.nil
 | _,_,.cons n t h=>.cons ⟨t,rfl⟩ (q_d h)
def inClass(s:Stmt)(j:Nat):Stmt:=match s with
 | .ClassDef _ _ _ body _ _ _ _ _ _ _=>body.getD j (.Pass ⟨0,0,0,0⟩)
 | _=>.Pass ⟨0,0,0,0⟩
def v_h(s:Stmt):Arguments:=match s with
 | .FunctionDef _ a _ _ _ _ _ _ _ _=>a
 | _=>{ posonlyargs:=[],args:=[],vararg:=none,kwonlyargs:=[],kw_defaults:=[],kwarg:=none,defaults:=[] }
def w_k(s:Stmt):List Stmt:=match s with
 | .FunctionDef _ _ b _ _ _ _ _ _ _=>b
 | _=>[]
def z_p(s:Stmt):Scope:=match s with
 | .FunctionDef _ _ _ _ _ _ sc _ _ _=>sc
 | _=>{ kind:=.function,names:=[],isGenerator:=false,isCoroutine:=false }
abbrev CX0:CXT:=fun _ _ _ _ _ _=>False
abbrev E0:XK:=fun _ _ _=>False
theorem pass0{X:Cx}:Passes CX0 X E0:=fun _ _ _ _ _ _ _ h=>h.elim
structure Fun(K:PySem.W.Frag)(x qual:Str)(st:Stmt)(f:Addr)(fd:FuncData):Prop where
 ex:∃ (oc:Value) (od:Option Addr) (kV doc pm:Value) (an:Option Addr) (cdv ct:Value) (osl:Array (Option Value)),
  fd=fnOf x qual (v_h st) (w_k st) (z_p st) .none kV doc pm an cdv ct/\K.lookup f=some ⟨oc,od,.func fd,osl⟩/\codeIn K cdv qual=true
 kp:keepIn K (.ref f)=true
section
variable {P:Program} {w:World} {K:PySem.W.Frag} {mg:Str->Option Value} {base:Heap}
theorem Fun.ok{x qual:Str}{st:Stmt}{f:Addr}{fd:FuncData}{N ps:List Str}{k:Nat}{sp:Sp}(F:Fun K x qual st f fd)(S:FnScope N ps (z_p st))(len:∀ vs H Q E,sp vs H Q E->vs.length=ps.length)
  (hbody:∀ (cdv:Value) (A:Around) (outer:List Env) (s:Shared) (H:Hp) (vs:List V) (Q:VK) (E:XK),Room k (A.deeper (envOfC qual (z_p st) s.heap.objs.size f cdv))->sp vs H Q E ->
   ∃ t,PSs (cxOf CX0 P w K mg base N qual (z_p st) f cdv A outer s H E).nox (w_k st) t/\t { nx:=fun _ H'=>Q .non H',rt:=Q } (start N vs) H):FnOk P w K mg base CX0 (k+1) f fd ps sp:=by
 obtain ⟨oc,od,kV,doc,pm,an,cdv,ct,osl,rfl,lk,hcd⟩:=F.ex
 refine fn_of lk hcd S len fun A outer s H vs Q E hr hsp=>?_
 obtain ⟨t,h,q⟩:=hbody cdv A outer s H vs Q E hr hsp
 exact ⟨t,h.nox,q⟩
theorem Fun.binds{x qual:Str}{st:Stmt}{f:Addr}{fd:FuncData}{ps:List Str}(F:Fun K x qual st f fd)
  (h:∀ (kV doc pm:Value) (an:Option Addr) (cdv ct:Value) (us:List Value),us.length=ps.length->bindArgs (fnOf x qual (v_h st) (w_k st) (z_p st) .none kV doc pm an cdv ct) ⟨us,[]⟩=pure (ps.zip us)):Binds K fd ps []:=by
 obtain ⟨oc,od,kV,doc,pm,an,cdv,ct,osl,rfl,lk,hcd⟩:=F.ex
 exact .all (h kV doc pm an cdv ct)
theorem fun_mk{x qual:Str}{st:Stmt}{f:Addr}{oc:Value}{od an:Option Addr}{osl:Array (Option Value)}{kV doc pm cdv ct:Value}(l:K.lookup f=some ⟨oc,od,.func (fnOf x qual (v_h st) (w_k st) (z_p st) .none kV doc pm an cdv ct),osl⟩)
  (c:codeIn K cdv qual=true) (k:keepIn K (.ref f)=true):Fun K x qual st f (fnOf x qual (v_h st) (w_k st) (z_p st) .none kV doc pm an cdv ct):=⟨⟨oc,od,kV,doc,pm,an,cdv,ct,osl,rfl,l,c⟩,k⟩
end
theorem hu_of{A:Around}{k:Nat}(hr:Room k A):A.units+1<cLine:=Nat.lt_of_le_of_lt (Nat.add_le_add_left (by decide:1<=64) _) hr.units
section
variable {X:Cx}
theorem pv(i:Nat){x:Str}{pos:Pos}(hN:X.N[i]? = some x:=by rfl)(hv:Vis X.env.scope x:=by first | exact Or.inl rfl | exact Or.inr (Or.inl rfl) | exact Or.inr (Or.inr rfl))(hd:(x == ("__debug__" : Str))=false:=by decide)
  (hcd:(x == ("__classdict__" : Str))=false:=by decide):PE X (.Name x pos) (tVar i):=pe_var hN hv hd hcd
end
theorem iteF{A B:Prop}(h:B):if false=true then A else B:=by
 rw [if_neg Bool.false_ne_true]
 exact h
theorem iteT{A B:Prop}(h:A):if true=true then A else B:=by
 rw [if_pos rfl]
 exact h
theorem ite2{c A B:Prop}[Decidable c](h1:c->A)(h2:¬c->B):if c then A else B:=by
 by_cases h:c
 ·rw [if_pos h]
  exact h1 h
 ·rw [if_neg h]
  exact h2 h
def Same(H H':Hp):Prop:=∀ b o,H b=some o->H' b=some o
theorem Same.refl(H:Hp):Same H H:=fun _ _ h=>h
theorem Same.trans{H H1 H2:Hp}(a:Same H H1)(b:Same H1 H2):Same H H2:=fun c o h=>b c o (a c o h)
theorem Same.free{H H':Hp}(e:Same H H'){l:Addr}(h:H' l=Option.none):H l=Option.none:=by
 cases q:H l with
 | none=>rfl
 | some o =>
  rw [e l o q] at h
  cases h
theorem Same.seq{K:PySem.W.Frag}{H H':Hp}{a:Addr}{xs:List V}(e:Same H H')(h:SqL K H a xs):SqL K H' a xs:=by
 rcases h with (h | ⟨o,h⟩) | h
 ·exact .inl (.inl (e _ _ h))
 ·exact .inl (.inr ⟨o,e _ _ h⟩)
 ·exact .inr h
end L2
namespace L2
open PySem PySem.Spec PyProof.Rows
end L2
namespace L2
open PySem PySem.Spec PyProof.Rows
def clOf(env:Env):List (Str×NameKind)->List (Str×Addr)->List (Str×Addr)
 | [],acc=>acc
 | (n,k)::r,acc=>if (k == NameKind.free)=true then clOf env r ((n,(env.cells.lookup n).getD 0)::acc) else clOf env r acc
theorem x_u{env:Env}{x:Str}:∀ (l:List (Str×NameKind)) (acc:List (Str×Addr)),
  (clOf env l acc).lookup x=if (l.any fun p=>(p.1 == x)&&(p.2 == NameKind.free))=true then some ((env.cells.lookup x).getD 0) else acc.lookup x
 | [],acc=>by simp [clOf]
 | (n,k)::r,acc=>by
  unfold clOf
  by_cases hk:(k == NameKind.free)=true
  ·rw [if_pos hk,x_u r]
   by_cases hr:(r.any fun p=>(p.1 == x)&&(p.2 == NameKind.free))=true
   ·rw [if_pos hr,if_pos]
    rw [List.any_cons,hr,Bool.or_true]
   ·rw [if_neg hr]
    have hr':(r.any fun p=>(p.1 == x)&&(p.2 == NameKind.free))=false:=(Bool.not_eq_true _).mp hr
    rw [List.any_cons,hr',Bool.or_false,hk,Bool.and_true,List.lookup_cons]
    by_cases hn:n=x
    ·subst hn
     simp
    ·have h1:(n == x)=false:=by simpa using hn
     have h2:(x == n)=false:=by simpa using fun z=>hn (Eq.symm z)
     simp [h1,h2]
  ·rw [if_neg hk,x_u r]
   have hk':(k == NameKind.free)=false:=by simpa using hk
   rw [List.any_cons,hk',Bool.and_false,Bool.false_or]
theorem v_d{env:Env}{scope:Scope}(h:∀ n k,(n,k)∈scope.names->(k == NameKind.free)=true->(env.cells.lookup n).isSome=true):closureFor scope env=pure (clOf env scope.names []):=by
 have go:∀ (l:List (Str×NameKind)) (acc:List (Str×Addr)),(∀ n k,(n,k)∈l->(k == NameKind.free)=true->(env.cells.lookup n).isSome=true) ->
   (forIn l acc (fun (x:Str×NameKind) (r:List (Str×Addr))=>match x with
    | (name,kind)=>if (kind == NameKind.free)=true then (do let a <-cellOf env name;pure (ForInStep.yield ((name,a)::r))) else pure (ForInStep.yield r)):Sem (List (Str×Addr)))=pure (clOf env l acc):=by
  intro l
  induction l with
  | nil=>intro acc _;rfl
  | cons p r ih =>
   intro acc hp
   obtain ⟨n,k⟩:=p
   rw [List.forIn_cons]
   unfold clOf
   by_cases hk:(k == NameKind.free)=true
   ·obtain ⟨c,hc⟩:=Option.isSome_iff_exists.mp (hp n k List.mem_cons_self hk)
    have hc1:cellOf env n=pure c:=by simp only [cellOf,hc]
    simp only [hk,if_true,hc1,hc,Option.getD_some]
    have:=ih ((n,c)::acc) (fun n' k' h'=>hp n' k' (List.mem_cons_of_mem _ h'))
    simpa using this
   ·simp only [hk,if_false]
    have:=ih acc (fun n' k' h'=>hp n' k' (List.mem_cons_of_mem _ h'))
    simpa using this
 have:=go scope.names [] h
 simp only [closureFor]
 simpa using this
def compOk(sc out:Scope)(xs:List Str)(cs:List Str):Bool :=
 (sc.kind == .function)&&(out.kind == .function)&&sc.names.all (fun p=>p.2 != NameKind.cell)&&sc.names.all (fun p=>p.2 != NameKind.local || sc.names.lookup p.1 == some .local)&&xs.all (fun x=>sc.names.lookup x == some .local)
  && sc.names.all (fun p=>p.2 != NameKind.free || out.names.lookup p.1 == some .cell)&&cs.all (fun c=>sc.names.lookup c == some .free)
structure CompOk(sc out:Scope)(xs:List Str)(cs:List Str):Prop where
 kind:sc.kind = .function
 okind:out.kind = .function
 cell:∀ y∈sc.names,y.2 ≠ .cell
 names:∀ y∈sc.names,y.2 = .local->sc.names.lookup y.1=some .local
 x:∀ x∈xs,sc.names.lookup x=some .local
 free:∀ n k,(n,k)∈sc.names->k = .free->out.names.lookup n=some .cell
 cs:∀ c∈cs,sc.names.lookup c=some .free
theorem compOk.mk{sc out:Scope}{xs:List Str}{cs:List Str}(h:compOk sc out xs cs=true):CompOk sc out xs cs:=by
 unfold compOk at h
 simp only [Bool.and_eq_true,List.all_eq_true,beq_iff_eq,bne_iff_ne,ne_eq,Bool.or_eq_true] at h
 obtain ⟨⟨⟨⟨⟨⟨h1,h2⟩,h3⟩,h4⟩,h5⟩,h6⟩,h7⟩:=h
 exact ⟨h1,h2,h3,fun y hy hl=>(h4 y hy).resolve_left fun z=>z hl,h5,fun n k hm hk=>(h6 (n,k) hm).resolve_left fun z=>z hk,h7⟩
theorem n_k{sc:Scope}{env:Env}{n:Str}(hk:env.scope.kind = .function)(hout:env.scope.names.lookup n=some .cell)(h:sc.names.lookup n=some .free):(relabel sc env).names.lookup n=some .cell:=by
 unfold relabel
 have go:∀ l:List (Str×NameKind),l.lookup n=some .free ->
   (l.map fun (p:Str×NameKind)=>if (p.2 == NameKind.free&&env.scope.kind == .function&&env.kindOf p.1 == some .cell)=true then (p.1,NameKind.cell) else (p.1,p.2)).lookup n=some .cell:=by
  intro l
  induction l with
  | nil=>intro h;simp at h
  | cons p r ih =>
   intro h
   obtain ⟨m,k⟩:=p
   rw [List.lookup_cons] at h
   cases hm:n == m with
   | true =>
    rw [hm] at h
    cases h
    have e:n=m:=by simpa using hm
    subst e
    have hko:env.kindOf n=some .cell:=hout
    rw [List.map_cons]
    simp [hk,hko]
   | false =>
    rw [hm] at h
    rw [List.map_cons]
    by_cases hc:(k == NameKind.free&&env.scope.kind == .function&&env.kindOf m == some .cell)=true
    ·rw [if_pos hc,List.lookup_cons,hm]
     exact ih h
    ·rw [if_neg hc,List.lookup_cons,hm]
     exact ih h
 exact go sc.names h
def cxComp(X:Cx)(xs:List Str)(capt:List Nat)(scope:Scope)(C:Addr)(s:Shared)(H:Hp)(ex:List Addr):Cx :=
 { X with N:=xs++capt.map (fun j=>X.N.getD j ""),s₀:=s,H₀:=H,env:=compEnvC scope (clOf X.env scope.names []) C X.env,outer:=X.stack,ex:=ex,fn:=fun _=>false,pn:=[] }
def PTs(X:Cx)(ifs:List Expr)(t:TT):Prop :=
 ∀ (pins:List (Addr×Obj)) (s:Shared) (σ:St) (H:Hp) (Q:Bool->Hp->Prop),Inv X pins σ H s->t σ H Q ->
  wpAny (model X.prog X.w) X.A (forIn ifs true fun c r=>if r=true then do let ok <-isTrue c X.env (eval c X.env);pure (ForInStep.yield ok) else pure (ForInStep.yield r)) (TP X pins σ Q) X.xe s
def tYes:TT:=fun _ H Q=>Q true H
theorem y_a{X:Cx}:PTs X [] tYes:=fun pins s σ H Q I h=>by
 show wpAny _ _ (pure true) _ _ _
 exact wpAny_pure ⟨H,I,h⟩
theorem pts_one{X:Cx}{c:Expr}{t:TT}(hc:PT X c t):PTs X [c] t:=fun pins s σ H Q I h=>by
 rw [List.forIn_cons]
 simp only [if_true]
 refine wpAny_bind (wpAny_bind (thn (hc pins s σ H Q I h) fun b s1 q=>?_))
 refine wpAny_pure ?_
 show wpAny _ _ (forIn [] b _) _ _ _
 exact wpAny_pure q
theorem o_f{prog:Program}{w:World}{A:Around}{R:Result->Shared->Prop}{s:Shared}{elt target iter:Expr}{ifs:List Expr}{scope:Scope}{pos:Pos}{it acc:Value}{env:Env}(I:Nat->Shared->Prop)
  (turn:∀ n s,I n s->wpAny (model prog w) A (pyNext it) (fun r s₁=>match r with
   | none=>R (.ok .next) s₁
   | some v=>wpAny (model prog w) A (letOwnedTupleGo target it v) (fun _ s₁'=>wpAny (model prog w) A (assign target env v) (fun _ s₂ =>
     wpAny (model prog w) A (forIn ifs true fun c r=>if r=true then do let ok <-isTrue c env (eval c env);pure (ForInStep.yield ok) else pure (ForInStep.yield r)) (fun ok s₃ =>
      if ok=true then wpAny (model prog w) A (eval elt env) (fun x s₄ =>
       wpAny (model prog w) A (call (.builtin "list.append") [acc,x]) (fun _ s₅=>∃ m,m<n/\I m s₅) (notedBy (model prog w) A env fun e s'=>R (.error e) s') s₄) (notedBy (model prog w) A env fun e s'=>R (.error e) s') s₃
      else ∃ m,m<n/\I m s₃) (notedBy (model prog w) A env fun e s'=>R (.error e) s') s₂) (notedBy (model prog w) A env fun e s'=>R (.error e) s') s₁') (notedBy (model prog w) A env fun e s'=>R (.error e) s') s₁) (notedBy (model prog w) A env fun e s'=>R (.error e) s') s)
  (n:Nat) (h:I n s):codeAny (model prog w) A (.compLoop (.ListComp elt [⟨target,iter,ifs,0⟩] scope pos) 0 it acc env) R s:=by
 refine codeAny_loop rfl I (fun n s hI=>?_) n h
 show wpAny _ A ((compTurn (.ListComp elt [⟨target,iter,ifs,0⟩] scope pos) 0 it acc env).onRaise (fun x=>do noteFrame x env;theTreesLotGoes x)) _ _ s
 refine wpAny_noted ?_
 rw [compTurn_list]
 refine wpAny_bind (wpAny_standAt (wpAny_bind (wpAny_mono (turn n s hI) (fun r s₁ h₁=>?_) fun _ _ h'=>h')))
 cases r with
 | none=>exact wpAny_pure h₁
 | some v =>
  refine wpAny_bind (wpAny_mono h₁ (fun _ s₁' h₁'=>?_) fun _ _ h'=>h')
  refine wpAny_bind (wpAny_mono h₁' (fun _ s₂ h₂=>wpAny_bind (wpAny_mono h₂ (fun ok s₃ h₃=>?_) fun _ _ h'=>h')) fun _ _ h'=>h')
  cases ok with
  | false=>exact wpAny_pure ⟨rfl,h₃⟩
  | true =>
   exact wpAny_bind (wpAny_bind (wpAny_mono h₃ (fun x s₄ h₄=>wpAny_bind (wpAny_mono h₄ (fun _ s₅ h₅=>wpAny_pure (wpAny_pure ⟨rfl,h₅⟩)) fun _ _ h'=>h')) fun _ _ h'=>h'))
section
variable {X:Cx} {pins:List (Addr×Obj)} {σ:St} {H H2:Hp} {s s2:Shared} {xs:List Str} {capt:List Nat} {scope:Scope} {fp:List Addr}
abbrev emptyL:Obj:={ cls:=.type "list",dict:=none,data:=.seq ([]:List Value).toArray }
theorem Inv.stk_lt(I:Inv X pins σ H s){b:Addr}(hb:s.heap.objs.size<=b):b∉frs X.stack:=fun z=>by
 rcases List.mem_cons.mp (I.stkSub b z) with e | e
 ·exact absurd (Nat.lt_of_lt_of_le I.lt hb) (by rw [e];exact Nat.lt_irrefl _)
 ·exact I.nofs hb e
theorem i_y(I:Inv X pins σ H2 s2)(ok:CompOk scope X.env.scope xs (capt.map fun j=>X.N.getD j ""))(hf:∀ b∈fp,FpOk X pins H2 b)(hfo:∀ b∈fp,∃ o,s2.heap.get? b=some o){HH:Heap}(eH:HH=s2.heap.push emptyL) :
  (cxComp X xs capt scope HH.objs.size { s2 with heap:=HH } H2 (s2.heap.objs.size::fp)).Ok:=by
 have hsz:HH.objs.size=s2.heap.objs.size+1:=by rw [eH,Heap.size_push]
 have look:∀ y c,(clOf X.env scope.names []).lookup y=some c->X.env.cells.lookup y=some c:=fun y c e=>by
  rw [x_u] at e
  split at e
  ·rename_i ha
   obtain ⟨p,hp,hq⟩:=List.any_eq_true.mp ha
   simp only [Bool.and_eq_true,beq_iff_eq] at hq
   obtain ⟨q1,q2⟩:=hq
   subst q1
   obtain ⟨c',hc'⟩:=I.ok.has p.1 (.inl (ok.free p.1 p.2 hp q2))
   rw [hc'] at e ⊢
   exact e
  ·cases e
 have keep:∀ b o,s2.heap.get? b=some o->HH.get? b=some o:=fun b o e=>by rw [eH];exact Heap.get?_push_of_some _ e
 refine ⟨I.ok.mod,ok.kind,I.ok.glob,I.ok.blt,Nat.le_refl _,fun y z c h1 h2=>I.ok.inj y z c (look y c h1) (look z c h2),fun y hy=>?_,(fun y c h _=>nomatch h),I.ok.hd,I.ok.frames,I.ok.gd,.inl rfl,fun b hb=>?_,fun b o e=>?_,?_,fun b o e hb=>?_,fun b hb=>?_,?_,fun b hb=>I.stkFree b hb⟩
 ·-- each cell's name has its cell
  have hy':(relabel scope X.env).names.lookup y=some .cell\/(relabel scope X.env).names.lookup y=some .free:=hy
  have inn:∀ (l:List (Str×NameKind)) (k:NameKind),(∀ p∈l,p.2 ≠ .cell)->(k = .cell\/k = .free) ->
    (l.map fun (p:Str×NameKind)=>if (p.2 == NameKind.free&&X.env.scope.kind == .function&&X.env.kindOf p.1 == some .cell)=true then (p.1,NameKind.cell) else (p.1,p.2)).lookup y=some k->∃ p∈l,p.1=y/\p.2 = .free:=by
   intro l k hnc hkk
   induction l with
   | nil=>intro h;simp at h
   | cons p r ih =>
    intro h
    obtain ⟨m,k'⟩:=p
    rw [List.map_cons] at h
    by_cases hc:(k' == NameKind.free&&X.env.scope.kind == .function&&X.env.kindOf m == some .cell)=true
    ·rw [if_pos hc,List.lookup_cons] at h
     have hfree:k' = .free:=by
      simp only [Bool.and_eq_true,beq_iff_eq] at hc
      exact hc.1.1
     cases hm:y == m with
     | true=>exact ⟨(m,k'),List.mem_cons_self,by simpa using Eq.symm (by simpa using hm),hfree⟩
     | false =>
      rw [hm] at h
      obtain ⟨p,hp,q⟩:=ih (fun p hp=>hnc p (List.mem_cons_of_mem _ hp)) h
      exact ⟨p,List.mem_cons_of_mem _ hp,q⟩
    ·rw [if_neg hc,List.lookup_cons] at h
     cases hm:y == m with
     | true =>
      rw [hm] at h
      cases h
      rcases hkk with z | z
      ·exact absurd z (hnc (m,k') List.mem_cons_self)
      ·exact ⟨(m,k'),List.mem_cons_self,by simpa using Eq.symm (by simpa using hm),z⟩
     | false =>
      rw [hm] at h
      obtain ⟨p,hp,q⟩:=ih (fun p hp=>hnc p (List.mem_cons_of_mem _ hp)) h
      exact ⟨p,List.mem_cons_of_mem _ hp,q⟩
  have hex:∃ p∈scope.names,p.1=y/\p.2 = .free:=by
   rcases hy' with h | h
   ·exact inn scope.names .cell ok.cell (.inl rfl) h
   ·exact inn scope.names .free ok.cell (.inr rfl) h
  obtain ⟨p,hp,q1,q2⟩:=hex
  refine ⟨_,(x_u (env:=X.env) scope.names []).trans (if_pos (List.any_eq_true.mpr ⟨p,hp,?_⟩))⟩
  simp [q1,q2]
 ·-- the records that turn are not the frame's
  rcases List.mem_cons.mp hb with z | z
  ·subst z
   refine ⟨Nat.ne_of_lt (show s2.heap.objs.size<HH.objs.size by lia),fun y c e q=>?_⟩
   obtain ⟨v,hv⟩:=I.cell y c (look y c e)
   have:=hv.lt
   rw [q] at this
   exact absurd this (Nat.lt_irrefl _)
  ·obtain ⟨o,ho⟩:=hfo b z
   exact ⟨Nat.ne_of_lt (Nat.lt_of_lt_of_le (Heap.lt_size ho) (show s2.heap.objs.size<=HH.objs.size by lia)),fun y c e=>(hf b z).2.2.2.2.1 y c (look y c e)⟩
 ·obtain ⟨h1,h2⟩:=I.bs b o e
  exact ⟨keep b o h1,h2⟩
 ·show X.base.objs.size<=HH.objs.size
  have h1:=I.ok.bsz
  have h2:=I.sz
  lia
 ·-- the base's objects do not turn
  have h0:=(I.bs b o e).1
  rcases List.mem_cons.mp hb with z | z
  ·subst z
   exact absurd (Heap.lt_size h0) (Nat.lt_irrefl _)
  ·rcases (hf b z).2.2.2.1 with q | q
   ·exact I.ok.noex b o e q
   ·have h1:=(I.ok.bs b o e).1
    exact absurd (Nat.lt_of_lt_of_le (Heap.lt_size h1) q) (Nat.lt_irrefl _)
 ·show b∉frs X.stack
  rcases List.mem_cons.mp hb with z | z
  ·subst z
   exact I.stk_lt (Nat.le_refl _)
  ·intro q
   rcases List.mem_cons.mp (I.stkSub b q) with e | e
   ·exact (hf b z).2.1 e
   ·exact (hf b z).2.2.1 e
 ·show HH.FunFrames X.base X.stack
  exact Heap.FunFrames.of_keeps (fun b o e _=>⟨o,keep b o e,rfl⟩) I.stack
theorem comp_inv(I:Inv X pins σ H2 s2)(ok:CompOk scope X.env.scope xs (capt.map fun j=>X.N.getD j ""))(hcap:∀ j∈capt,j<X.N.length)(hf:∀ b∈fp,FpOk X pins H2 b)(hfo:∀ b∈fp,∃ o,s2.heap.get? b=some o)
  {HH h1:Heap} {t:Nat} {m:Str->Option Value} {oc:Obj} (eH:HH=s2.heap.push emptyL) (hns:h1.Ns HH.objs.size m) (hsb:Heap.SameBut HH.objs.size (HH.push oc) h1) :
  Inv (cxComp X xs capt scope HH.objs.size { s2 with heap:=HH } H2 (s2.heap.objs.size::fp)) [(s2.heap.objs.size,emptyL)] (List.replicate xs.length none++capt.map fun j=>(σ[j]?).join) H2 { s2 with heap:=h1,toks:=t }:=by
 have hsz:HH.objs.size=s2.heap.objs.size+1:=by rw [eH,Heap.size_push]
 have look:∀ y c,(clOf X.env scope.names []).lookup y=some c->X.env.cells.lookup y=some c:=fun y c e=>by
  rw [x_u] at e
  split at e
  ·rename_i ha
   obtain ⟨p,hp,hq⟩:=List.any_eq_true.mp ha
   simp only [Bool.and_eq_true,beq_iff_eq] at hq
   obtain ⟨q1,q2⟩:=hq
   subst q1
   obtain ⟨c',hc'⟩:=I.ok.has p.1 (.inl (ok.free p.1 p.2 hp q2))
   rw [hc'] at e ⊢
   exact e
  ·cases e
 have keep0:∀ b o,HH.get? b=some o->h1.get? b=some o:=fun b o e=>hsb.extBut b o (Nat.ne_of_lt (Heap.lt_size e)) (Heap.get?_push_of_some _ e)
 have keep:∀ b o,s2.heap.get? b=some o->h1.get? b=some o:=fun b o e=>keep0 b o (by rw [eH];exact Heap.get?_push_of_some _ e)
 have hD:h1.get? s2.heap.objs.size=some emptyL:=keep0 _ _ (by rw [eH];exact Heap.get?_push_size _ rfl)
 refine ⟨i_y I ok hf hfo eH,rfl,I.bare,Un.kept keep0,⟨m,hns,fun i y v h1' h2 h3=>?_⟩,fun y c e=>?_,I.hok.fresh (show s2.heap.objs.size<=HH.objs.size by lia),fun y c e=>I.freeC y c (look y c e),fun p hp=>?_,I.hok.kept keep,?_⟩
 ·by_cases hi:i<xs.length
  ·have h2':(List.replicate xs.length (none:Option V))[i]? = some (some v):=by
    rw [<-List.getElem?_append_left (l₂:=capt.map fun j=>(σ[j]?).join) (by simpa using hi)]
    exact h2
   rw [List.getElem?_replicate_of_lt hi] at h2'
   cases h2'
  ·have h1'':(capt.map fun j=>X.N.getD j "")[i-xs.length]? = some y:=by
    rw [<-List.getElem?_append_right (l₁:=xs) (by lia)]
    exact h1'
   have h2':(capt.map fun j=>(σ[j]?).join)[i-xs.length]? = some (some v):=by
    have q:=List.getElem?_append_right (l₁:=List.replicate xs.length (none:Option V)) (l₂:=capt.map fun j=>(σ[j]?).join) (i:=i) (by simpa using hi)
    rw [List.length_replicate] at q
    rw [<-q]
    exact h2
   rw [List.getElem?_map] at h1'' h2'
   cases hj:capt[i-xs.length]? with
   | none=>rw [hj] at h1'';cases h1''
   | some j =>
    rw [hj] at h1'' h2'
    have ey:X.N.getD j "" = y:=by simpa using h1''
    have ev:(σ[j]?).join=some v:=by simpa using h2'
    have hjm:j∈capt:=List.mem_of_getElem? hj
    have hjl:=hcap j hjm
    have hN:X.N[j]? = some y:=by
     rw [List.getD_eq_getElem?_getD,List.getElem?_eq_getElem hjl] at ey
     rw [List.getElem?_eq_getElem hjl]
     simpa using ey
    have hσ:σ[j]? = some (some v):=by
     cases e:σ[j]? with
     | none=>rw [e] at ev;cases ev
     | some o=>rw [e] at ev;have ev':o=some v:=ev;rw [ev']
    have hfr:scope.names.lookup y=some .free:=ok.cs y (List.mem_map.mpr ⟨j,hjm,ey⟩)
    have hout:X.env.scope.names.lookup y=some .cell:=ok.free y .free (PySem.mem_of_lookup hfr) rfl
    obtain ⟨mX,_,hl⟩:=I.loc
    obtain ⟨u,ru,lk⟩:=hl j y v hN hσ (.inr (.inl hout))
    refine ⟨u,ru,?_⟩
    have hko:X.env.kindOf y=some .cell:=hout
    rcases lk with ⟨z,_⟩ | ⟨_,c,hc,hcell⟩
    ·rw [hko] at z;cases z
    ·refine .inr ⟨.inl (n_k ok.okind hout hfr),c,?_,hcell.keeps keep⟩
     show (clOf X.env scope.names []).lookup y=some c
     rw [x_u,if_pos (List.any_eq_true.mpr ⟨(y,.free),PySem.mem_of_lookup hfr,by simp⟩),hc]
     rfl
 ·obtain ⟨v,hv⟩:=I.cell y c (look y c e)
  exact ⟨v,hv.keeps keep⟩
 ·have hp':p=(s2.heap.objs.size,emptyL):=by simpa [cxComp] using hp
  subst hp'
  refine ⟨hD,I.hok.fresh (Nat.le_refl _),Nat.ne_of_lt (show s2.heap.objs.size<HH.objs.size by lia),I.stk_lt (Nat.le_refl _),fun v z=>by cases z⟩
 ·show _=(xs++capt.map fun j=>X.N.getD j "").length
  simp
def CompG(J:It)(n:Nat)(c:St)(g:TG)(tt:TT)(te:TE)(H1:Hp)(Fin:List V->Hp->Prop):Prop :=
 ∃ W:Nat->Nat->List V->Hp->Prop,(∃ m,W 0 m [] H1)/\∀ i m ys H,W i m ys H->(J.stop i H/\Fin ys H) \/
  (J.go i H/\ys.length<sizeLine/\∃ N:List V->Hp->Prop,(∀ ys' H',N ys' H'->∃ m',m'<m/\W (i+1) m' ys' H') /\
   ∀ x H',J.yld i H x H'->∀ os:St,os.length=n->g x (os++c) H' fun σ1 H1=>tt σ1 H1 fun b H2=>if b=true then te σ1 H2 fun y H3=>N (ys++[y]) H3 else N ys H2)
def tCompG(n:Nat)(g:TG)(capt:List Nat)(wi:TI)(tt:TT)(te:TE):TE:=fun σ H Q=>wi σ H fun J H1 =>
 CompG J n (capt.map fun j=>(σ[j]?).join) g tt te H1 fun ys H=>∀ l,H l=none->Q (.ref l) (upd H l (.lst ys))
def Shp(n:Nat)(g:TG):Prop:=∀ v (os c:St) H Q,os.length=n->g v (os++c) H Q->g v (os++c) H fun σ' H'=>(∃ os':St,os'.length=n/\σ'=os'++c)/\Q σ' H'
def CompW(J:It)(S:V->St)(tt:TT)(te:TE)(H1:Hp)(Fin:List V->Hp->Prop):Prop :=
 ∃ W:Nat->Nat->List V->Hp->Prop,(∃ m,W 0 m [] H1)/\∀ i m ys H,W i m ys H->(J.stop i H/\Fin ys H) \/
  (J.go i H/\ys.length<sizeLine/\∃ N:List V->Hp->Prop,(∀ ys' H',N ys' H'->∃ m',m'<m/\W (i+1) m' ys' H') /\
   ∀ x H',J.yld i H x H'->tt (S x) H' fun b H2=>if b=true then te (S x) H2 fun y H3=>N (ys++[y]) H3 else N ys H2)
def tComp(capt:List Nat)(wi:TI)(tt:TT)(te:TE):TE:=fun σ H Q=>wi σ H fun J H1 =>
 CompW J (fun x=>some x::capt.map fun j=>(σ[j]?).join) tt te H1 fun ys H=>∀ l,H l=none->Q (.ref l) (upd H l (.lst ys))
theorem CompW.g{J:It}{c:St}{tt:TT}{te:TE}{H:Hp}{Fin:List V->Hp->Prop}(h:CompW J (fun x=>some x::c) tt te H Fin):CompG J 1 c (gName 0) tt te H Fin:=by
 obtain ⟨W,w0,st⟩:=h
 refine ⟨W,w0,fun i m ys H w=>?_⟩
 rcases st i m ys H w with q | ⟨go,hl,N,hN,step⟩
 ·exact .inl q
 ·refine .inr ⟨go,hl,N,hN,fun x H' y os hos=>?_⟩
  obtain ⟨o,rfl⟩:=List.length_eq_one_iff.mp hos
  exact step x H' y
theorem k_r:Shp 1 (gName 0):=fun v os c H Q hos h=>by
 obtain ⟨o,rfl⟩:=List.length_eq_one_iff.mp hos
 exact ⟨⟨[some v],rfl,rfl⟩,h⟩
theorem w_q{K:PySem.W.Frag}:Shp 2 (gTup K 2 (gCons (gName 0) (gCons (gName 1) gNil))):=fun v os c H Q hos h=>by
 match os,hos with
 | [a,b],_ =>
 obtain ⟨p,xs,rfl,hp,hl,v1,r1,rfl,v2,r2,rfl,rfl,q⟩:=h
 exact ⟨p,_,rfl,hp,hl,v1,_,rfl,v2,_,rfl,rfl,⟨[some v1,some v2],rfl,rfl⟩,q⟩
theorem HOk.track{P:Program}{w:World}{H:Hp}{h:Heap}{a:Addr}{o:HO}(k:HOk P w H h)(n:H a=none)(new:ObjOk P w (upd H a o) h a o):HOk P w (upd H a o) h:=fun b u e=>by
 by_cases hb:b=a
 ·subst hb;rw [z_d] at e;cases e;exact new
 ·rw [z_r hb] at e
  exact (k b u e).stay (fun _ _ _ q=>q) (fun c q=>by rw [z_r (z_i q n)];exact q) (fun c xs q=>by rw [z_r (z_i q n)];exact q) fun c ob xs q=>by rw [z_r (z_i q n)];exact q
theorem u_y{elt iter tg:Expr}{g:TG}{ifs:List Expr}{pos:Pos}{tt:TT}{te:TE}{it:Addr}{tn:Nat->Heap->Prop}{J:It}{RR:Value->Addr->Result->Shared->Prop}
  (hx0:∀ e s,¬X.xe e s) (hc:X.calm=true) (ok:CompOk scope X.env.scope xs (capt.map fun j=>X.N.getD j "")) (hcap:∀ j∈capt,j<X.N.length) (hG:∀ C s H ex,PG (cxComp X xs capt scope C s H ex) tg g) (hgs:Shp xs.length g)
  (hT:∀ C s H ex,PTs (cxComp X xs capt scope C s H ex) ifs tt) (hE:∀ C s H ex,PE (cxComp X xs capt scope C s H ex) elt te)
  (I2:Inv X pins σ H2 s2) (T:Turn X.prog X.w X.K tg J fp it tn) (st2:tn 0 s2.heap) (f2:∀ b∈fp,FpOk X pins H2 b)
  (Fin:List V->Hp->Prop) (hW:CompG J xs.length (capt.map fun j=>(σ[j]?).join) g tt te H2 Fin)
  (hRR:∀ D C s' ys H' oc,H' D=none->Fin ys H'->Inv X pins σ (upd H' D (.lst ys)) s'->s'.heap.get? C=some oc->(∃ m,s'.heap.Ns C m)->C≠D->H' C=none->C≠X.env.locals->C∉frs X.stack->X.s₀.heap.objs.size<=C->(∀ y c,X.env.cells.lookup y=some c->c≠C)->(∀ p∈X.pn++pins,p.1≠C) ->
   (∀ v,oc.data ≠ .cell v)->RR (.ref D) C (.ok .next) s') :
  wpAny (model X.prog X.w) X.A (newList []) (fun acc s₃=>wpAny (model X.prog X.w) X.A (newFunctionEnv scope X.env.globals (clOf X.env scope.names []) [] X.env.qual none .none (some X.env)) (fun cenv s₄ =>
   codeAny (model X.prog X.w) X.A (.compStart (.ListComp elt [⟨tg,iter,ifs,0⟩] scope pos) 0 (.ref it) acc { cenv with scope:=relabel scope X.env }) (RR acc cenv.locals) s₄) X.xe s₃) X.xe s2:=by
 refine wpAny_newObj_type (wpAny_newFunctionEnv ok.cell (by intro y hy;simp at hy) (fun h1 hns hsb=>?_) ok.kind)
 dsimp only at hns hsb ⊢
 generalize eH:s2.heap.push { cls:=.type "list",dict:=none,data:=.seq ([]:List Value).toArray }=HH at hns hsb ⊢
 have eH':HH=s2.heap.push emptyL:=eH.symm
 have hsz:HH.objs.size=s2.heap.objs.size+1:=by rw [eH',Heap.size_push]
 have hfo:∀ b∈fp,∃ o,s2.heap.get? b=some o:=fun b hb=>let ⟨o,ho,_⟩:=T.obj 0 _ st2 b hb;⟨o,ho⟩
 have flt:∀ b∈fp,b<s2.heap.objs.size:=fun b hb=>let ⟨o,ho⟩:=hfo b hb;Heap.lt_size ho
 have keep1:∀ b o,s2.heap.get? b=some o->h1.get? b=some o:=fun b o e =>
  hsb.extBut b o (Nat.ne_of_lt (Nat.lt_of_lt_of_le (Heap.lt_size e) (show s2.heap.objs.size<=HH.objs.size by lia))) (Heap.get?_push_of_some _ (by rw [eH'];exact Heap.get?_push_of_some _ e))
 have I4:=comp_inv (t:=s2.toks+([]:List (Str×Value)).length) I2 ok hcap f2 hfo eH' hns hsb
 have st4:tn 0 h1:=T.keep 0 _ _ st2 fun b _ o e=>keep1 b o e
 obtain ⟨W,⟨m0,w0⟩,turn⟩:=hW
 generalize hX:cxComp X xs capt scope HH.objs.size { s2 with heap:=HH } H2 (s2.heap.objs.size::fp)=Y at I4
 have eProg:Y.prog=X.prog:=by rw [<-hX];rfl
 have eW:Y.w=X.w:=by rw [<-hX];rfl
 have eK:Y.K=X.K:=by rw [<-hX];rfl
 have eA:Y.A=X.A:=by rw [<-hX];rfl
 have eEnv:Y.env=compEnvC scope (clOf X.env scope.names []) HH.objs.size X.env:=by rw [<-hX];rfl
 have eXe:Y.xe=X.xe:=by rw [<-hX];rfl
 have eCalm:Y.calm=true:=by rw [<-hX];exact hc
 have ePn:Y.pn=[]:=by rw [<-hX];rfl
 have eEx:Y.ex=s2.heap.objs.size::fp:=by rw [<-hX];rfl
 have eFs:Y.fs=frs X.stack:=by rw [<-hX];rfl
 have hT':PTs Y ifs tt:=by rw [<-hX];exact hT _ _ _ _
 have hE':PE Y elt te:=by rw [<-hX];exact hE _ _ _ _
 have hG':PG Y tg g:=by rw [<-hX];exact hG _ _ _ _
 have eH0:Y.H₀=H2:=by rw [<-hX];rfl
 have eS0:Y.s₀={ s2 with heap:=HH }:=by rw [<-hX];rfl
 have eL:Y.env.locals=HH.objs.size:=by rw [eEnv];rfl
 have ecl:Y.env.cells=clOf X.env scope.names []:=by rw [eEnv];rfl
 have look:∀ y c,(clOf X.env scope.names []).lookup y=some c->X.env.cells.lookup y=some c:=fun y c e=>by
  rw [x_u] at e
  split at e
  ·rename_i ha
   obtain ⟨p,hp,hq⟩:=List.any_eq_true.mp ha
   simp only [Bool.and_eq_true,beq_iff_eq] at hq
   obtain ⟨q1,q2⟩:=hq
   subst q1
   obtain ⟨c',hc'⟩:=I2.ok.has p.1 (.inl (ok.free p.1 p.2 hp q2))
   rw [hc'] at e ⊢
   exact e
  ·cases e
 have fpOk:∀ {pins':List (Addr×Obj)} {H':Hp},(∀ b∈fp,H' b=none)->(∀ p∈pins',p.1∉fp)->∀ b∈fp,FpOk Y pins' H' b:=fun {pins' H'} hn hp b hb=>by
  have hlt:=flt b hb
  refine ⟨hn b hb,by rw [eL];exact Nat.ne_of_lt (Nat.lt_of_lt_of_le hlt (show s2.heap.objs.size<=HH.objs.size by lia)),?_,.inl (by rw [eEx];exact List.mem_cons_of_mem _ hb),fun y c e=>(f2 b hb).2.2.2.2.1 y c (look y c (by rw [<-ecl];exact e)),fun p hpp z=>?_⟩
  ·rw [eFs]
   intro q
   rcases List.mem_cons.mp (I2.stkSub b q) with e | e
   ·exact (f2 b hb).2.1 e
   ·exact (f2 b hb).2.2.1 e
  ·rw [ePn,List.nil_append] at hpp
   exact hp p hpp (by rw [z];exact hb)
 have Dnf:s2.heap.objs.size∉fp:=fun z=>absurd (flt _ z) (Nat.lt_irrefl _)
 have loop:codeAny (model X.prog X.w) X.A (.compLoop (.ListComp elt [⟨tg,iter,ifs,0⟩] scope pos) 0 (.ref it) (.ref s2.heap.objs.size) Y.env) (RR (.ref s2.heap.objs.size) HH.objs.size) { s2 with heap:=h1,toks:=s2.toks+([]:List (Str×Value)).length }:=by
  refine o_f (fun n s'=>∃ i ys its k os H',Inv Y [(s2.heap.objs.size,{ cls:=.type "list",data:=.seq its.toArray k })] (os++capt.map fun j=>(σ[j]?).join) H' s'/\os.length=xs.length/\Vals ys its/\ys.length<=sizeLine/\tn i s'.heap/\(∀ b∈fp,H' b=none)/\W i n ys H') ?_ m0
   ⟨0,[],[],0,_,H2,I4,List.length_replicate,.nil,Nat.zero_le _,st4,fun b hb=>(f2 b hb).1,w0⟩
  rintro n s3 ⟨i,ys,its,k,os,H3,I3,hos,rv,hys,st3,fr3,w3⟩
  have noErr:∀ {e:Value} {s:Shared},X.xe e s->notedBy (model X.prog X.w) X.A Y.env (fun e s'=>RR (.ref s2.heap.objs.size) HH.objs.size (.error e) s') e s:=fun {e s} z=>(hx0 e s z).elim
  have pinD:=I3.pin (s2.heap.objs.size,{ cls:=.type "list",data:=.seq its.toArray k }) (by simp)
  have fp3:=fpOk (pins':=[(s2.heap.objs.size,{ cls:=.type "list",data:=.seq its.toArray k })]) fr3 (by simpa using Dnf)
  rcases turn i n ys H3 w3 with ⟨stop,fin⟩ | ⟨go,hlt,N,hN,step⟩
  ·-- it stops
   have d:=T.done Y eProg eW eK eCalm i _ s3 _ H3 X.xe I3 fp3 st3 stop
   rw [eA] at d
   refine wpAny_mono d (fun r s4 ⟨hr,I4'⟩=>?_) fun e s z=>noErr z
   subst hr
   show RR (.ref s2.heap.objs.size) HH.objs.size (.ok .next) s4
   have pinD4:=I4'.pin (s2.heap.objs.size,{ cls:=.type "list",data:=.seq its.toArray k }) (by simp)
   obtain ⟨mC,nsC,_⟩:=I4'.loc
   rw [eL] at nsC
   obtain ⟨oC,esC,epC,hoC,hdC,_⟩:=id nsC
   have base4:=I4'.base
   rw [eFs,eEx,eH0,eS0] at base4
   have hCn:H3 HH.objs.size=none:=by rw [<-eL];exact I4'.free
   refine hRR s2.heap.objs.size HH.objs.size s4 ys H3 oC pinD4.2.1 fin ?_ hoC ⟨mC,nsC⟩ (Nat.ne_of_gt (show s2.heap.objs.size<HH.objs.size by lia)) hCn (Nat.ne_of_gt (Nat.lt_of_lt_of_le I2.lt (show s2.heap.objs.size<=HH.objs.size by lia))) (I2.stk_lt (by lia)) (by have:=I2.sz;lia) (fun y c e z=>?_) (fun p hp z=>?_) (fun v z=>by rw [hdC] at z;cases z)
   ·have hok4:=I4'.hok
    rw [eProg,eW] at hok4
    have hbl:∀ b ob,s2.heap.get? b=some ob->b∉fp->HH.get? b=some ob/\b∉s2.heap.objs.size::fp:=fun b ob e hm =>
     ⟨by rw [eH'];exact Heap.get?_push_of_some _ e,fun z=>(List.mem_cons.mp z).elim (fun q=>absurd (Heap.lt_size e) (by rw [q];exact Nat.lt_irrefl _)) hm⟩
    refine I2.call' (ch:=fp) (by rw [I4'.os,eS0]) ⟨fun b ob e nn hb hx=>?_,fun b ob e nn hb hx=>?_,fun b ob e nn hx=>?_,fun b ob e hx=>?_,fun b xs e=>?_,fun b ob u e=>?_,fun b pp qq e=>?_⟩ (HOk.track hok4 pinD4.2.1 ⟨hys,its,k,rv,pinD4.1⟩) I4'.bare fun b hb=>⟨(f2 b hb).2.2.2.1,(f2 b hb).2.1,(f2 b hb).2.2.2.2.1,(f2 b hb).2.2.2.2.2⟩
    ·obtain ⟨h1',h2'⟩:=hbl b ob e hx
     exact base4.keep b ob h1' nn hb h2'
    ·obtain ⟨h1',h2'⟩:=hbl b ob e hx
     exact base4.slot b ob h1' nn hb h2'
    ·obtain ⟨h1',h2'⟩:=hbl b ob e hx
     rw [z_r (Nat.ne_of_lt (Heap.lt_size e))]
     exact base4.free b ob h1' nn h2'
    ·obtain ⟨h1',h2'⟩:=hbl b ob e hx
     exact base4.there b ob h1' h2'
    ·have q:=base4.tups b xs e
     rw [z_r (z_i q pinD4.2.1)]
     exact q
    ·have q:=base4.frzs b ob u e
     rw [z_r (z_i q pinD4.2.1)]
     exact q
    ·have q:=base4.tbls b pp qq e
     rw [z_r (z_i q pinD4.2.1)]
     exact q
   ·obtain ⟨v,hv⟩:=I2.cell y c e
    have:=hv.lt
    rw [z] at this
    exact absurd this (Nat.not_lt.mpr (show s2.heap.objs.size<=HH.objs.size by lia))
   ·have:=Heap.lt_size (I2.pin p hp).1
    rw [z] at this
    exact absurd this (Nat.not_lt.mpr (show s2.heap.objs.size<=HH.objs.size by lia))
  ·-- one turn
   have d:=T.item Y eProg eW eK eCalm i _ s3 _ H3 X.xe I3 fp3 st3 go
   rw [eA] at d
   refine wpAny_mono d (fun r s4 ⟨u,hr,h4⟩=>?_) fun e s z=>noErr z
   subst hr
   refine wpAny_mono h4 (fun _ s5 ⟨v,H5,I5,r5,y5,st5,fr5⟩=>?_) fun e s z=>noErr z
   have fp5:=fpOk (pins':=[(s2.heap.objs.size,{ cls:=.type "list",data:=.seq its.toArray k })]) fr5 (by simpa using Dnf)
   have I5':=I5.pinned fp5 (T.obj _ _ st5)
   have pg':=hG' _ s5 _ H5 v u _ I5' r5 (hgs v os _ H5 _ hos (step v H5 y5 os hos))
   rw [eProg,eW,eA,eXe] at pg'
   refine wpAny_mono pg' (fun _ s6 ⟨σ6,H6,I6,⟨os6,hos6,e6⟩,q6⟩=>?_) fun e s z=>noErr z
   subst e6
   have t6:=hT' _ s6 _ H6 _ I6 q6
   rw [eProg,eW,eA,eXe] at t6
   refine wpAny_mono t6 (fun b s7 ⟨H7,I7,q7⟩=>?_) fun e s z=>noErr z
   have ntn:∀ {σ':St} {H':Hp} {s':Shared},Inv Y ([(s2.heap.objs.size,{ cls:=.type "list",data:=.seq its.toArray k })]++pinsAt fp s5.heap) σ' H' s'->tn (i+1) s'.heap/\∀ b∈fp,H' b=none:=fun {σ' H' s'} J'=>by
    refine ⟨T.keep _ _ _ st5 fun b hb o e=>(J'.pin (b,o) (List.mem_append_right _ (List.mem_append_right _ (t_a hb e)))).1,fun b hb=>?_⟩
    obtain ⟨o,e,_⟩:=T.obj _ _ st5 b hb
    exact (J'.pin (b,o) (List.mem_append_right _ (List.mem_append_right _ (t_a hb e)))).2.1
   cases b with
   | false =>
    rw [if_neg Bool.false_ne_true] at q7
    obtain ⟨m',hm,w7⟩:=hN _ _ q7
    rw [if_neg Bool.false_ne_true]
    exact ⟨m',hm,i+1,ys,its,k,os6,H7,I7.unpinned,hos6,rv,hys,(ntn I7).1,(ntn I7).2,w7⟩
   | true =>
    rw [if_pos rfl] at q7
    rw [if_pos rfl]
    have e7:=hE' _ s7 _ H7 _ I7 q7
    rw [eProg,eW,eA,eXe] at e7
    refine wpAny_mono e7 (fun uy s8 ⟨y,H8,I8,r8,n8⟩=>?_) fun e s z=>noErr z
    obtain ⟨m',hm,w8⟩:=hN _ _ n8
    have pin8:=I8.pin (s2.heap.objs.size,{ cls:=.type "list",data:=.seq its.toArray k }) (by simp)
    have hlen:ys.length=its.length:=rv.length
    refine wpAny_list_append_plain (hsz:=by rw [List.size_toArray];lia) ⟨k,pin8.1⟩ fun h9 ⟨k9,hl9⟩ hs9=>?_
    have hk9:∀ b o,b≠s2.heap.objs.size->s8.heap.get? b=some o->h9.get? b=some o:=fun b o hb e=>(hs9.2 b hb).trans e
    have I8u:Inv Y (pinsAt fp s5.heap) (os6++capt.map fun j=>(σ[j]?).join) H8 s8:=I8.pins_of fun p hp=>I8.pin p (List.mem_append_right _ (List.mem_append_right _ hp))
    have I9:Inv Y (pinsAt fp s5.heap) (os6++capt.map fun j=>(σ[j]?).join) H8 { s8 with heap:=h9,toks:=s8.toks }:=I8u.turned (it:=s2.heap.objs.size) hk9 pin8.2.1 (by rw [eL];exact Nat.ne_of_lt (show s2.heap.objs.size<HH.objs.size by lia)) (.inl (by rw [eEx];exact List.mem_cons_self))
     (fun y c e z=>by
      rw [ecl] at e
      obtain ⟨v',hv⟩:=I2.cell y c (look y c e)
      have:=hv.lt
      rw [z] at this
      exact absurd this (Nat.lt_irrefl _))
     (fun p hp z=>by
      rw [ePn,List.nil_append] at hp
      exact Dnf (by rw [<-z];exact (o_x hp).1))
    have hl9':h9.get? s2.heap.objs.size=some { cls:=.type "list",data:=.seq (its++[uy]).toArray k9 }:=by
     rw [hl9];simp
    refine ⟨m',hm,i+1,ys++[y],its++[uy],k9,os6,H8,I9.pins_of fun p hp=>?_,hos6,rv.append (.cons r8 .nil),?_,?_,(ntn I8).2,w8⟩
    ·have hp':p=(s2.heap.objs.size,{ cls:=.type "list",data:=.seq (its++[uy]).toArray k9 }):=by simpa using hp
     subst hp'
     exact ⟨hl9',pin8.2.1,pin8.2.2.1,pin8.2.2.2.1,fun v z=>by cases z⟩
    ·rw [List.length_append,List.length_singleton];lia
    ·refine T.keep _ _ _ (ntn I8).1 fun b hb o e=>hk9 b o (fun z=>Dnf (by rw [<-z];exact hb)) e
 rw [eEnv] at loop
 refine codeAny_compStart_list ?_ ?_
 ·exact loop
 ·exact T.self _ 0 _ _ _ st4 loop
theorem t_q{elt iter tg:Expr}{g:TG}{ifs:List Expr}{pos:Pos}{wi:TI}{tt:TT}{te:TE}(xs:List Str)(capt:List Nat)
  (hx0:∀ e s,¬X.xe e s) (hc:X.calm=true) (hi:PI X tg iter wi) (hG:∀ C s H ex,PG (cxComp X xs capt scope C s H ex) tg g) (hgs:Shp xs.length g)
  (hT:∀ C s H ex,PTs (cxComp X xs capt scope C s H ex) ifs tt) (hE:∀ C s H ex,PE (cxComp X xs capt scope C s H ex) elt te)
  (hk:compOk scope X.env.scope xs (capt.map fun j=>X.N.getD j "")=true) (hcap:∀ j∈capt,j<X.N.length)
  (hs:∀ y,foldedSetIterable iter X.env y=pure y:=by intro _;rfl):PE X (.ListComp elt [⟨tg,iter,ifs,0⟩] scope pos) (tCompG xs.length g capt wi tt te):=by
 intro pins s σ H Q I h
 have ok:=compOk.mk hk
 rw [eval_ListComp]
 refine wpAny_comprehension_free (use:=none) (cl:=clOf X.env scope.names []) rfl hs (v_d fun n k hm hf=>?_) ok.kind ok.names (thn (hi pins s σ H _ I h) fun xv s1 h1=>thn h1 fun itv s2 h2=>?_)
 ·obtain ⟨c,e⟩:=I.ok.has n (.inl (ok.free n k hm (by simpa using hf)))
  rw [e];rfl
 ·obtain ⟨it,fp,tn,J,H2,e,I2,T,st2,f2,hW⟩:=h2
  subst e
  refine u_y (RR:=fun acc C=>compPost (model X.prog X.w) X.A X.xe none (EP X pins σ Q) acc C) hx0 hc ok hcap hG hgs hT hE I2 T st2 f2 (fun ys H=>∀ l,H l=none->Q (.ref l) (upd H l (.lst ys))) hW ?_
  intro D C s' ys H' oc hD fin I' hC ⟨m,hns⟩ hCD hCn hL _ hsz hcl hpn _
  refine ⟨m,hns,fun h' hsb=>⟨.ref D,_,I'.turned (t':=s'.toks) (it:=C) (fun b o hb e=>(hsb.2 b hb).trans e) (by rw [z_r hCD];exact hCn) hL (.inr hsz) hcl hpn,rfl,fin D hD⟩⟩
theorem s_u{elt iter tg:Expr}{g:TG}{py:Pos}{ifs:List Expr}{pos spos:Pos}{wi:TI}{tt:TT}{te:TE}{i:Nat}{y:Str}(xs:List Str)(capt:List Nat)
  (hN:X.N.Nodup) (hiy:X.N[i]? = some y) (hy:Loc X.env.scope y)
  (hx0:∀ e s,¬X.xe e s) (hc:X.calm=true) (hi:PI X tg iter wi) (hG:∀ C s H ex,PG (cxComp X xs capt scope C s H ex) tg g) (hgs:Shp xs.length g)
  (hT:∀ C s H ex,PTs (cxComp X xs capt scope C s H ex) ifs tt) (hE:∀ C s H ex,PE (cxComp X xs capt scope C s H ex) elt te)
  (hk:compOk scope X.env.scope xs (capt.map fun j=>X.N.getD j "")=true) (hcap:∀ j∈capt,j<X.N.length)
  (hsw:swapsWith (.ListComp elt [⟨tg,iter,ifs,0⟩] scope pos) (some (.Name y py)) spos.line X.env=pure true)
  (hs:∀ y,foldedSetIterable iter X.env y=pure y:=by intro _;rfl) (hf:X.fn y=true\/X.env.scope.names.lookup y=some .local:=by first | exact .inl rfl | exact .inr rfl | assumption) :
  PS X (.Assign [.Name y py] (.ListComp elt [⟨tg,iter,ifs,0⟩] scope pos) spos) (tAsg (tCompG xs.length g capt wi tt te) (gName i)):=by
 intro pins s σ H D0 I h
 have ok:=compOk.mk hk
 rw [exec_Assign_Name_used _ _ _ _ hsw]
 refine wpAny_bind (wpAny_standAt (wpAny_bind ?_))
 show wpAny _ X.A (do let _ <-comprehension (.ListComp elt [⟨tg,iter,ifs,0⟩] scope pos) scope X.env _ (newList []) false (eval iter X.env) (some (assign (.Name y py) X.env))) _ _ s
 refine wpAny_bind (wpAny_mono (wpAny_comprehension_free (use:=some (assign (.Name y py) X.env)) (cl:=clOf X.env scope.names []) (Q:=fun _ s'=>SP X pins D0 .next s') rfl hs (v_d fun n k hm hf=>?_) ok.kind ok.names (thn (hi pins s σ H _ I h) fun xv s1 h1=>thn h1 fun itv s2 h2=>?_))
  (fun _ s' hq=>wpAny_pure (wpAny_pure hq)) fun _ _ e=>e)
 ·obtain ⟨c,e⟩:=I.ok.has n (.inl (ok.free n k hm (by simpa using hf)))
  rw [e];rfl
 ·obtain ⟨it,fp,tn,J,H2,e,I2,T,st2,f2,hW⟩:=h2
  subst e
  refine u_y (RR:=fun acc C=>compPost (model X.prog X.w) X.A X.xe (some (assign (.Name y py) X.env)) (fun _ s'=>SP X pins D0 .next s') acc C) hx0 hc ok hcap hG hgs hT hE I2 T st2 f2 (fun ys H=>∀ l,H l=none->gName i (.ref l) σ (upd H l (.lst ys)) D0.nx) hW ?_
  intro D C s' ys H' oc hD fin I' hC ⟨m,hns⟩ hCD hCn hL hst hsz hcl hpn hnc
  show wpAny _ _ (assign (.Name y py) X.env (.ref D)) _ _ s'
  have hCf:C∉X.fs:=fun z=>by
   rcases I'.ok.stk with e | ⟨e,_⟩
   ·exact hst (by rw [e];exact z)
   ·refine hst ?_
    rw [e]
    unfold frs
    rw [List.filterMap_cons]
    split
    ·exact z
    ·exact List.mem_cons_of_mem _ z
  have Ip:Inv X (pins++[(C,oc)]) σ (upd H' D (.lst ys)) s':=I'.pins_of fun p hp=>(List.mem_append.mp hp).elim (fun z=>I'.pin p (List.mem_append_right _ z)) fun z=>by
   have z':p=(C,oc):=by simpa using z
   subst z'
   exact ⟨hC,by rw [z_r hCD];exact hCn,hL,hCf,hnc⟩
  have pg:=z_t (X:=X) (i:=i) (x:=y) (pos:=py) hN hiy hy hf
  refine thn (pg _ s' σ _ (.ref D) (.ref D) (fun σ' H''=>D0.nx σ' H''/\H''=upd H' D (.lst ys)) Ip rfl ⟨fin D hD,rfl⟩) fun _ s'' ⟨σ',H'',I'',q,eH⟩=>?_
  subst eH
  have pC:=I''.pin (C,oc) (by simp)
  obtain ⟨o,es,ep,ho,r⟩:=hns
  rw [hC] at ho
  cases ho
  refine ⟨m,⟨oc,es,ep,pC.1,r⟩,fun h' hsb=>?_⟩
  have Iu:Inv X pins σ' (upd H' D (.lst ys)) s'':=I''.pins_of fun p hp=>I''.pin p (List.mem_append_right _ (List.mem_append_left _ hp))
  exact ⟨σ',_,Iu.turned (t':=s''.toks) (it:=C) (fun b o hb e=>(hsb.2 b hb).trans e) pC.2.1 hL (.inr hsz) hcl hpn,q⟩
theorem y_s{elt iter:Expr}{x:Str}{px:Pos}{ifs:List Expr}{pos:Pos}{wi:TI}{tt:TT}{te:TE}(capt:List Nat)
  (hx0:∀ e s,¬X.xe e s) (hc:X.calm=true) (hi:PI X (.Name x px) iter wi)
  (hT:∀ C s H ex,PTs (cxComp X [x] capt scope C s H ex) ifs tt) (hE:∀ C s H ex,PE (cxComp X [x] capt scope C s H ex) elt te)
  (hk:compOk scope X.env.scope [x] (capt.map fun j=>X.N.getD j "")=true) (hcap:∀ j∈capt,j<X.N.length) (hnd:(x::capt.map fun j=>X.N.getD j "").Nodup)
  (hs:∀ y,foldedSetIterable iter X.env y=pure y:=by intro _;rfl):PE X (.ListComp elt [⟨.Name x px,iter,ifs,0⟩] scope pos) (tComp capt wi tt te):=by
 intro pins s σ H Q I h
 have ok:=compOk.mk hk
 rw [eval_ListComp]
 refine wpAny_comprehension_free (use:=none) (cl:=clOf X.env scope.names []) rfl hs (v_d fun n k hm hf=>?_) ok.kind ok.names (thn (hi pins s σ H _ I h) fun xv s1 h1=>thn h1 fun itv s2 h2=>?_)
 ·obtain ⟨c,e⟩:=I.ok.has n (.inl (ok.free n k hm (by simpa using hf)))
  rw [e];rfl
 ·obtain ⟨it,fp,tn,J,H2,e,I2,T,st2,f2,hW⟩:=h2
  subst e
  refine u_y (RR:=fun acc C=>compPost (model X.prog X.w) X.A X.xe none (EP X pins σ Q) acc C) hx0 hc ok hcap (xs:=[x]) (g:=gName 0) (fun C s H ex=>z_t hnd rfl (.inl (lookup_relabel_local (ok.x x (by simp)))) (.inr (lookup_relabel_local (ok.x x (by simp))))) k_r hT hE I2 T st2 f2 (fun ys H=>∀ l,H l=none->Q (.ref l) (upd H l (.lst ys))) hW.g ?_
  intro D C s' ys H' oc hD fin I' hC ⟨m,hns⟩ hCD hCn hL _ hsz hcl hpn _
  refine ⟨m,hns,fun h' hsb=>⟨.ref D,_,I'.turned (t':=s'.toks) (it:=C) (fun b o hb e=>(hsb.2 b hb).trans e) (by rw [z_r hCD];exact hCn) hL (.inr hsz) hcl hpn,rfl,fin D hD⟩⟩
theorem u_m{elt iter:Expr}{x:Str}{px:Pos}{py:Pos}{ifs:List Expr}{pos spos:Pos}{wi:TI}{tt:TT}{te:TE}{i:Nat}{y:Str}(capt:List Nat)
  (hN:X.N.Nodup) (hiy:X.N[i]? = some y) (hy:Loc X.env.scope y)
  (hx0:∀ e s,¬X.xe e s) (hc:X.calm=true) (hi:PI X (.Name x px) iter wi)
  (hT:∀ C s H ex,PTs (cxComp X [x] capt scope C s H ex) ifs tt) (hE:∀ C s H ex,PE (cxComp X [x] capt scope C s H ex) elt te)
  (hk:compOk scope X.env.scope [x] (capt.map fun j=>X.N.getD j "")=true) (hcap:∀ j∈capt,j<X.N.length) (hnd:(x::capt.map fun j=>X.N.getD j "").Nodup)
  (hsw:swapsWith (.ListComp elt [⟨.Name x px,iter,ifs,0⟩] scope pos) (some (.Name y py)) spos.line X.env=pure true)
  (hs:∀ y,foldedSetIterable iter X.env y=pure y:=by intro _;rfl) (hf:X.fn y=true\/X.env.scope.names.lookup y=some .local:=by first | exact .inl rfl | exact .inr rfl | assumption) :
  PS X (.Assign [.Name y py] (.ListComp elt [⟨.Name x px,iter,ifs,0⟩] scope pos) spos) (tAsg (tComp capt wi tt te) (gName i)):=by
 intro pins s σ H D0 I h
 have ok:=compOk.mk hk
 rw [exec_Assign_Name_used _ _ _ _ hsw]
 refine wpAny_bind (wpAny_standAt (wpAny_bind ?_))
 show wpAny _ X.A (do let _ <-comprehension (.ListComp elt [⟨.Name x px,iter,ifs,0⟩] scope pos) scope X.env _ (newList []) false (eval iter X.env) (some (assign (.Name y py) X.env))) _ _ s
 refine wpAny_bind (wpAny_mono (wpAny_comprehension_free (use:=some (assign (.Name y py) X.env)) (cl:=clOf X.env scope.names []) (Q:=fun _ s'=>SP X pins D0 .next s') rfl hs (v_d fun n k hm hf=>?_) ok.kind ok.names (thn (hi pins s σ H _ I h) fun xv s1 h1=>thn h1 fun itv s2 h2=>?_))
  (fun _ s' hq=>wpAny_pure (wpAny_pure hq)) fun _ _ e=>e)
 ·obtain ⟨c,e⟩:=I.ok.has n (.inl (ok.free n k hm (by simpa using hf)))
  rw [e];rfl
 ·obtain ⟨it,fp,tn,J,H2,e,I2,T,st2,f2,hW⟩:=h2
  subst e
  refine u_y (RR:=fun acc C=>compPost (model X.prog X.w) X.A X.xe (some (assign (.Name y py) X.env)) (fun _ s'=>SP X pins D0 .next s') acc C) hx0 hc ok hcap (xs:=[x]) (g:=gName 0) (fun C s H ex=>z_t hnd rfl (.inl (lookup_relabel_local (ok.x x (by simp)))) (.inr (lookup_relabel_local (ok.x x (by simp))))) k_r hT hE I2 T st2 f2 (fun ys H=>∀ l,H l=none->gName i (.ref l) σ (upd H l (.lst ys)) D0.nx) hW.g ?_
  intro D C s' ys H' oc hD fin I' hC ⟨m,hns⟩ hCD hCn hL hst hsz hcl hpn hnc
  show wpAny _ _ (assign (.Name y py) X.env (.ref D)) _ _ s'
  have hCf:C∉X.fs:=fun z=>by
   rcases I'.ok.stk with e | ⟨e,_⟩
   ·exact hst (by rw [e];exact z)
   ·refine hst ?_
    rw [e]
    unfold frs
    rw [List.filterMap_cons]
    split
    ·exact z
    ·exact List.mem_cons_of_mem _ z
  have Ip:Inv X (pins++[(C,oc)]) σ (upd H' D (.lst ys)) s':=I'.pins_of fun p hp=>(List.mem_append.mp hp).elim (fun z=>I'.pin p (List.mem_append_right _ z)) fun z=>by
   have z':p=(C,oc):=by simpa using z
   subst z'
   exact ⟨hC,by rw [z_r hCD];exact hCn,hL,hCf,hnc⟩
  have pg:=z_t (X:=X) (i:=i) (x:=y) (pos:=py) hN hiy hy hf
  refine thn (pg _ s' σ _ (.ref D) (.ref D) (fun σ' H''=>D0.nx σ' H''/\H''=upd H' D (.lst ys)) Ip rfl ⟨fin D hD,rfl⟩) fun _ s'' ⟨σ',H'',I'',q,eH⟩=>?_
  subst eH
  have pC:=I''.pin (C,oc) (by simp)
  obtain ⟨o,es,ep,ho,r⟩:=hns
  rw [hC] at ho
  cases ho
  refine ⟨m,⟨oc,es,ep,pC.1,r⟩,fun h' hsb=>?_⟩
  have Iu:Inv X pins σ' (upd H' D (.lst ys)) s'':=I''.pins_of fun p hp=>I''.pin p (List.mem_append_right _ (List.mem_append_left _ hp))
  exact ⟨σ',_,Iu.turned (t':=s''.toks) (it:=C) (fun b o hb e=>(hsb.2 b hb).trans e) pC.2.1 hL (.inr hsz) hcl hpn,q⟩
end
open PySem PySem.Spec PyProof.Rows
section
variable {X:Cx}
def bigB:Int:=1645504557321206042154969182557350504982735865633579863348609024
def CDivL(i j:Int):Prop:=0<j/\j<bigB
theorem j_u{n k:Nat}(h:n<2^k)(hk:0<k):n.log2<k:=by
 by_cases h0:n=0
 ·subst h0;simpa using hk
 ·exact (Nat.log2_lt h0).mpr h
theorem y_n:OpR X (binaryOp .FloorDiv) (rI CDivL fun i j=>.int (i/j)):=opI fun i j _ _ _ _ _ hc q=>by
 have h1:(0:Int)<j:=hc.1
 have h2:j<bigB:=hc.2
 refine floordiv_int (by lia) (by rw [Int.fdiv_eq_ediv_of_nonneg i (by lia)];exact q) (.inl (PyProof.noPylong_of_log2 ?_))
 have h3:j.natAbs<2^210:=by
  have e:(2^210:Nat)=1645504557321206042154969182557350504982735865633579863348609024:=by decide
  unfold bigB at h2
  rw [e]
  lia
 exact Nat.lt_of_lt_of_le (j_u h3 (by decide)) (by decide)
theorem x_t{T:String}:CallR X (.builtin "isinstance") (fun xs H Q=>∃ x t b,xs=[x,.ty T]/\TyOf X.K H x t/\PySem.W.kitOne X.K t (.type T)=some b/\Q (.bl b) H):=by
 intro pins s σ H xs us Q I r h
 obtain ⟨x,t,b,rfl,ty,e,q⟩:=h
 obtain ⟨u,w',rfl,rx,rt⟩:=vals2 r
 cases rt
 exact h_m I rx ty e fun tk=>⟨.bl b,H,I.tok _,rfl,q⟩
theorem bools_of{bs:List Bool}:∀ {us:List Value},Vals (bs.map V.bl) us->us=bs.map Value.bool:=by
 induction bs with
 | nil=>intro us r;cases r;rfl
 | cons b bs ih =>
  intro us r
  rw [List.map_cons] at r
  cases r with
  | cons r1 r2 =>
   cases r1
   rw [ih r2,List.map_cons]
theorem call_all:CallR X (.builtin "all") (fun xs H Q=>X.calm=true/\∃ (p:Addr) (bs:List Bool),xs=[.ref p]/\SqL X.K H p (bs.map V.bl)/\Q (.bl (bs.all id)) H):=by
 intro pins s σ H xs us Q I r h
 obtain ⟨hc,p,bs,rfl,hp,q⟩:=h
 obtain ⟨u,rfl,ru⟩:=vals1 r
 cases ru
 obtain ⟨its,rv,pl,hz⟩:=I.list hp
 have e:=bools_of rv
 subst e
 have hl:=pl.isList
 have hlt:p<s.heap.objs.size:=by obtain ⟨_,e,_⟩:=hl;exact Heap.lt_size e
 refine call_all_walk (wpAny_pyIter_list hl ?_)
 refine ⟨s.heap.objs.size,[s.heap.objs.size,p],[s.heap.objs.size],(bs.map Value.bool).toArray.size,_,_,fun i=>(bs[i]?).getD true,rfl,Walks.list (A:=X.A.in1) (I.ok.hd hc) _ p (Nat.ne_of_lt hlt) (bs.map Value.bool).toArray,
  ⟨⟨_,Heap.get?_push_size _ rfl,rfl,rfl⟩,hl.push _⟩,fun i v s' Q' E' hP hQ=>?_,fun h' tk hk=>?_⟩
 ·have hP':(bs.map Value.bool)[i]? = some v:=by simpa using hP
  rw [List.getElem?_map] at hP'
  cases e:bs[i]? with
  | none=>rw [e] at hP';cases hP'
  | some b =>
   rw [e] at hP'
   have ev:Value.bool b=v:=Option.some.inj hP'
   subst ev
   simp only [e,Option.getD_some] at hQ
   exact wpAny_truthy_bool hQ
 ·have e:((List.range (bs.map Value.bool).toArray.size).all fun i=>(bs[i]?).getD true)=bs.all id:=by
   rw [List.size_toArray,List.length_map]
   rw [Bool.eq_iff_iff,List.all_eq_true,List.all_eq_true]
   constructor
   ·intro h b hb
    obtain ⟨i,hi,rfl⟩:=List.mem_iff_getElem.mp hb
    have:=h i (List.mem_range.mpr hi)
    rw [List.getElem?_eq_getElem hi] at this
    exact this
   ·intro h i hi
    have hi':=List.mem_range.mp hi
    rw [List.getElem?_eq_getElem hi']
    exact h _ (List.getElem_mem hi')
  rw [e]
  exact ⟨.bl _,H,I.kept (t':=tk) fun b o eb=>hk b o (fun z=>by rw [List.mem_singleton.mp z] at eb;exact Nat.lt_irrefl _ (Heap.lt_size eb)) (Heap.get?_push_of_some _ eb),rfl,q⟩
end
section
variable {S:V->St} {tt:TT} {te:TE} {H:Hp} {Fin:List V->Hp->Prop}
theorem y_r{lo:Int}{n:Nat}(Pv:Nat->List V->Hp->Prop)(h0:Pv 0 [] H)(hz:∀ i ys H,i<n->Pv i ys H->ys.length<sizeLine)
  (hs:∀ i ys H,i<n->Pv i ys H->tt (S (.int (lo+i))) H fun b H2=>if b=true then te (S (.int (lo+i))) H2 fun y H3=>Pv (i+1) (ys++[y]) H3 else Pv (i+1) ys H2)
  (hd:∀ ys H,Pv n ys H->Fin ys H):CompW (Itr lo n) S tt te H Fin:=by
 refine ⟨fun i m ys H=>m=n-i/\i<=n/\Pv i ys H,⟨n,by simp,Nat.zero_le _,h0⟩,?_⟩
 rintro i m ys H ⟨rfl,hi,p⟩
 by_cases hlt:i<n
 ·refine .inr ⟨hlt,hz i ys H hlt p,Pv (i+1),fun ys' H' p'=>⟨n-(i+1),by lia,rfl,hlt,p'⟩,fun x H' y=>?_⟩
  obtain ⟨e,y⟩:=y
  subst e y
  exact hs i ys _ hlt p
 ·have e:i=n:=by lia
  subst e
  exact .inl ⟨Nat.le_refl _,hd ys H p⟩
theorem x_w{K:PySem.W.Frag}{a:Addr}{xs:List V}(Pv:Nat->List V->Hp->Prop)(h0:Pv 0 [] H)(hl:∀ i ys H,i<=xs.length->Pv i ys H->SqL K H a xs)(hz:∀ i ys H,i<xs.length->Pv i ys H->ys.length<sizeLine)
  (hs:∀ i x ys H,xs[i]? = some x->Pv i ys H->tt (S x) H fun b H2=>if b=true then te (S x) H2 fun y H3=>Pv (i+1) (ys++[y]) H3 else Pv (i+1) ys H2)
  (hd:∀ ys H,Pv xs.length ys H->Fin ys H):CompW (Itl K a) S tt te H Fin:=by
 refine ⟨fun i m ys H=>m=xs.length-i/\i<=xs.length/\Pv i ys H,⟨xs.length,by simp,Nat.zero_le _,h0⟩,?_⟩
 rintro i m ys H ⟨rfl,hi,p⟩
 have q:=hl i ys H hi p
 by_cases hlt:i<xs.length
 ·refine .inr ⟨⟨xs,xs[i],q,by simp [hlt]⟩,hz i ys H hlt p,Pv (i+1),fun ys' H' p'=>⟨xs.length-(i+1),by lia,rfl,hlt,p'⟩,fun x H' y=>?_⟩
  obtain ⟨e,y⟩:=y
  subst e
  exact hs i x ys _ (y xs q) p
 ·have e:i=xs.length:=by lia
  subst e
  exact .inl ⟨⟨xs,q,Nat.le_refl _⟩,hd ys H p⟩
theorem u_z{K:PySem.W.Frag}{a:Addr}{xs:List V}(Pv:Nat->List V->Hp->Prop)(h0:Pv 0 [] H)(hl:∀ i ys H,i<=xs.length->Pv i ys H->SqT K H a xs)(hz:∀ i ys H,i<xs.length->Pv i ys H->ys.length<sizeLine)
  (hs:∀ i x ys H,xs[i]? = some x->Pv i ys H->tt (S x) H fun b H2=>if b=true then te (S x) H2 fun y H3=>Pv (i+1) (ys++[y]) H3 else Pv (i+1) ys H2)
  (hd:∀ ys H,Pv xs.length ys H->Fin ys H):CompW (Itt K a) S tt te H Fin:=by
 refine ⟨fun i m ys H=>m=xs.length-i/\i<=xs.length/\Pv i ys H,⟨xs.length,by simp,Nat.zero_le _,h0⟩,?_⟩
 rintro i m ys H ⟨rfl,hi,p⟩
 have q:=hl i ys H hi p
 by_cases hlt:i<xs.length
 ·refine .inr ⟨⟨xs,xs[i],q,by simp [hlt]⟩,hz i ys H hlt p,Pv (i+1),fun ys' H' p'=>⟨xs.length-(i+1),by lia,rfl,hlt,p'⟩,fun x H' y=>?_⟩
  obtain ⟨e,y⟩:=y
  subst e
  exact hs i x ys _ (y xs q) p
 ·have e:i=xs.length:=by lia
  subst e
  exact .inl ⟨⟨xs,q,Nat.le_refl _⟩,hd ys H p⟩
end
structure TopD(w:World)(K:PySem.W.Frag)(a:Addr)(kvs:List (Str×V)):Prop where
 ex:∃ es n,K.lookup a=some ⟨.type "dict",none,.dict es n,#[]⟩/\PySem.W.KeysLit w.params es.toList/\Paired (fun (p:Str×V) (e:DictEntry)=>(∃ t,e.key = .str p.1 t)/\RelV p.2 e.val) kvs es.toList
 lo:(a == sysModules)=false
theorem k_y{x:Str}:∀ {kvs:List (Str×V)} {l:List DictEntry},Paired (fun (p:Str×V) (e:DictEntry)=>(∃ t,e.key = .str p.1 t)/\RelV p.2 e.val) kvs l ->
  RelO (kvs.lookup x) ((l.find? fun e=>Value.isStrOf x e.key).map (·.val))
 | _,_,.nil=>trivial
 | (k,v)::kvs,e::l,.cons ⟨⟨t,ek⟩,rv⟩ r=>by
  rw [List.lookup_cons,List.find?_cons]
  have hk:Value.isStrOf x e.key=(x == k):=by
   rw [ek]
   show (k == x)=(x == k)
   by_cases hx:x=k
   ·subst hx;rfl
   ·have h1:(x == k)=false:=by simpa using hx
    have h2:(k == x)=false:=by simpa using fun z=>hx (Eq.symm z)
    rw [h1,h2]
  rw [hk]
  cases hx:x == k with
  | true=>exact rv
  | false=>exact k_y r
theorem TopD.find{w:World}{K:PySem.W.Frag}{a:Addr}{kvs:List (Str×V)}(D:TopD w K a kvs)(x:Str):∃ es n,K.lookup a=some ⟨.type "dict",none,.dict es n,#[]⟩/\PySem.W.KeysLit w.params es.toList/\RelO (kvs.lookup x) (findBy Value.isStrOf es x):=by
 obtain ⟨es,n,h1,h2,h3⟩:=D.ex
 refine ⟨es,n,h1,h2,?_⟩
 have q:=k_y (x:=x) h3
 unfold findBy
 rw [<-Array.find?_toList]
 exact q
section
variable {X:Cx} {a:Addr} {kvs:List (Str×V)}
theorem ix_top(D:TopD X.w X.K a kvs):IxR X (fun x y H Q=>∃ z v,x = .ref a/\y = .str z/\kvs.lookup z=some v/\Q v H):=by
 intro value slice pins s σ H x y v u Q I rx ry h hs
 obtain ⟨z,r,rfl,rfl,hz,q⟩:=h
 cases rx
 obtain ⟨t,rfl⟩:=ry
 obtain ⟨es,n,h1,h2,h3⟩:=D.find z
 rw [hz] at h3
 obtain ⟨u,hu,ru⟩:=RelO.some_of h3
 have hm:=PySem.W.mapOf_K (prog:=X.prog) (w:=X.w) I.kIn h1 h2
 exact tail_any hm.typeIs slot_dict_getitem.lookup (wpAny_getItem_of (strKind_is _ _ z t) hm hu ⟨r,H,I.tok _,ru,q⟩) hs
end
end L2
namespace L2
open PySem PySem.Spec PyProof.Rows PySem.SeqAt
mutual
def RdD(K:PySem.W.Frag)(H:Hp):PyData->V->Prop
 | .none,v=>v = .non
 | .bool b,v=>v = .bl b
 | .int i,v=>v = .int i
 | .str x,v=>v = .str x
 | .list ds,v=>∃ p xs,v = .ref p/\SqL K H p xs/\RdDs K H ds xs
 | .tuple ds,v=>∃ p xs,v = .ref p/\SqT K H p xs/\RdDs K H ds xs
 | .dict _,_=>False
def RdDs(K:PySem.W.Frag)(H:Hp):List PyData->List V->Prop
 | [],xs=>xs=[]
 | d::ds,xs=>∃ x r,xs=x::r/\RdD K H d x/\RdDs K H ds r
end
section
variable {K:PySem.W.Frag} {H H':Hp}
theorem RdDs.ints(ns:List Int):RdDs K H (ns.map PyData.int) (ns.map V.int):=by
 induction ns with
 | nil=>unfold RdDs;rfl
 | cons n r ih =>
  show RdDs K H (PyData.int n::r.map PyData.int) (V.int n::r.map V.int)
  unfold RdDs
  exact ⟨_,_,rfl,by unfold RdD;rfl,ih⟩
theorem RdDs.cons{d:PyData}{ds:List PyData}{x:V}{xs:List V}(h:RdD K H d x)(r:RdDs K H ds xs):RdDs K H (d::ds) (x::xs):=by
 unfold RdDs
 exact ⟨x,xs,rfl,h,r⟩
theorem RdDs.nil:RdDs K H [] []:=by unfold RdDs;rfl
theorem RdD.int(i:Int):RdD K H (.int i) (.int i):=by unfold RdD;rfl
theorem RdD.str(i:Str):RdD K H (.str i) (.str i):=by unfold RdD;rfl
theorem RdD.lst{ds:List PyData}{p:Addr}{xs:List V}(h:SqL K H p xs)(r:RdDs K H ds xs):RdD K H (.list ds) (.ref p):=by
 unfold RdD
 exact ⟨p,xs,rfl,h,r⟩
theorem RdD.tup{ds:List PyData}{p:Addr}{xs:List V}(h:SqT K H p xs)(r:RdDs K H ds xs):RdD K H (.tuple ds) (.ref p):=by
 unfold RdD
 exact ⟨p,xs,rfl,h,r⟩
end
def Cmp(n:Nat)(d:PyData):Prop:=d.canLay0=true/\d.depth<=n
theorem Cmp.int{n:Nat}(i:Int):Cmp n (.int i):=⟨by simp [PyData.canLay0],by simp [PyData.depth]⟩
theorem cmpAll{n:Nat}:∀ {ds:List PyData},(∀ d∈ds,Cmp n d)->PyData.canLayAll0 ds=true/\PyData.depthAll ds<=n
 | [],_=>⟨by simp [PyData.canLayAll0],by simp [PyData.depthAll]⟩
 | d::ds,h=>by
  obtain ⟨h1,h2⟩:=h d List.mem_cons_self
  obtain ⟨h3,h4⟩:=cmpAll (ds:=ds) fun e he=>h e (List.mem_cons_of_mem _ he)
  refine ⟨by simp [PyData.canLayAll0,h1,h3],?_⟩
  simp only [PyData.depthAll]
  lia
theorem Cmp.list{n:Nat}{ds:List PyData}(h:∀ d∈ds,Cmp n d):Cmp (n+1) (.list ds):=by
 obtain ⟨h1,h2⟩:=cmpAll h
 exact ⟨by simp [PyData.canLay0,h1],by simp only [PyData.depth];lia⟩
theorem Cmp.tuple{n:Nat}{ds:List PyData}(h:∀ d∈ds,Cmp n d):Cmp (n+1) (.tuple ds):=by
 obtain ⟨h1,h2⟩:=cmpAll h
 exact ⟨by simp [PyData.canLay0,h1],by simp only [PyData.depth];lia⟩
theorem Cmp.mono{n m:Nat}{d:PyData}(h:Cmp n d)(l:n<=m):Cmp m d:=⟨h.1,Nat.le_trans h.2 l⟩
theorem Cmp.ints{n:Nat}(ns:List Int):∀ d∈ns.map PyData.int,Cmp n d:=fun d hd=>by
 obtain ⟨i,_,rfl⟩:=List.mem_map.mp hd
 exact .int i
mutual
theorem l_x:∀ {d:PyData},d.canLay0=true->PyData.eqv d d=true
 | .none,_=>by simp [PyData.eqv]
 | .bool _,_=>by simp [PyData.eqv]
 | .int _,_=>by simp [PyData.eqv]
 | .str _,_=>by simp [PyData.eqv]
 | .list ds,h=>by
  rw [PyData.eqv]
  exact t_i (by simpa [PyData.canLay0] using h)
 | .tuple ds,h=>by
  rw [PyData.eqv]
  exact t_i (by simpa [PyData.canLay0] using h)
 | .dict _,h=>by simp [PyData.canLay0] at h
theorem t_i:∀ {ds:List PyData},PyData.canLayAll0 ds=true->PyData.eqvAll ds ds=true
 | [],_=>by simp [PyData.eqvAll]
 | d::ds,h=>by
  have h':(PyData.canLay0 d&&PyData.canLayAll0 ds)=true:=by simpa [PyData.canLayAll0] using h
  obtain ⟨h1,h2⟩:=Bool.and_eq_true_iff.mp h'
  rw [PyData.eqvAll,l_x h1,t_i h2]
  rfl
end
section
variable {X:Cx} {pins:List (Addr×Obj)} {σ:St} {H:Hp} {s:Shared}
mutual
theorem Inv.reads(I:Inv X pins σ H s):∀ {d:PyData} {x:V} {v:Value},RdD X.K H d x->RelV x v->∃ as,Reads s.heap v d as
 | .none,_,_,h,r=>by unfold RdD at h;subst h;cases r;exact ⟨_,.none⟩
 | .bool b,_,_,h,r=>by unfold RdD at h;subst h;cases r;exact ⟨_,.bool b⟩
 | .int i,_,_,h,r=>by unfold RdD at h;subst h;obtain ⟨t,rfl⟩:=r;exact ⟨_,.int i t⟩
 | .str i,_,_,h,r=>by unfold RdD at h;subst h;obtain ⟨t,rfl⟩:=r;exact ⟨_,.str i t⟩
 | .list ds,_,_,h,r=>by
  unfold RdD at h
  obtain ⟨p,xs,rfl,h2,h3⟩:=h
  cases r
  obtain ⟨its,rv,⟨o,n,e1,e2,e3,e4⟩,_⟩:=I.list h2
  obtain ⟨as,ra⟩:=Inv.readsAll I h3 rv
  exact ⟨_,.list e1 e2 e4 (by simpa using ra)⟩
 | .tuple ds,_,_,h,r=>by
  unfold RdD at h
  obtain ⟨p,xs,rfl,h2,h3⟩:=h
  cases r
  obtain ⟨its,rv,⟨o,e1,e2,n,e4⟩,_⟩:=I.tuple h2
  obtain ⟨as,ra⟩:=Inv.readsAll I h3 rv
  exact ⟨_,.tuple e1 e2 e4 (by simpa using ra)⟩
 | .dict _,_,_,h,_=>by unfold RdD at h;exact h.elim
theorem Inv.readsAll(I:Inv X pins σ H s):∀ {ds:List PyData} {xs:List V} {vs:List Value},RdDs X.K H ds xs->Vals xs vs->∃ as,ReadsAll s.heap vs ds as
 | [],_,_,h,r=>by unfold RdDs at h;subst h;cases r;exact ⟨_,.nil⟩
 | d::ds,_,_,h,r=>by
  unfold RdDs at h
  obtain ⟨x,q,rfl,h2,h3⟩:=h
  cases r with
  | cons r1 r2 =>
   obtain ⟨as,ra⟩:=Inv.reads I h2 r1
   obtain ⟨bs,rb⟩:=Inv.readsAll I h3 r2
   exact ⟨_,.cons ra rb⟩
end
def rEqD(K:PySem.W.Frag)(no:Bool):R2:=fun x y H Q=>∃ dx dy,RdD K H dx x/\RdD K H dy y/\Cmp 64 dx/\Cmp 64 dy/\Q (.bl (no ^^ PyData.eqv dx dy)) H
theorem Cmp.shaped{d:PyData}(h:Cmp 64 d):shaped d=true:=by
 unfold SeqAt.shaped
 rw [h.1,decide_eq_true h.2]
 rfl
theorem g_k(hu:X.A.units+64<cLine):OpR X (compareOp .NotEq) (rEqD X.K true):=by
 intro pins s σ H x y v u Q I rx ry h
 obtain ⟨dx,dy,hx,hy,cx,cy,q⟩:=h
 obtain ⟨as,ra⟩:=I.reads hx rx
 obtain ⟨bs,rb⟩:=I.reads hy ry
 rw [Bool.true_xor] at q
 exact compareNe_shaped ra rb cx.shaped cy.shaped hu ⟨.bl _,H,I,rfl,q⟩
end
theorem rEqD.eq{K:PySem.W.Frag}{x y:V}{H:Hp}{Q:VK}{no:Bool}(d:PyData)(hx:RdD K H d x)(hy:RdD K H d y)(c:Cmp 64 d)(q:Q (.bl (!no)) H):rEqD K no x y H Q :=
 ⟨d,d,hx,hy,c,c,by rw [l_x c.1,Bool.xor_true];exact q⟩
open PySem PySem.Spec PyProof.Rows
section
variable {X:Cx} {K:PySem.W.Frag} (h:X.K=K)
include h
theorem t_l:IxR X (rIxL K):=by subst h;exact u_a
theorem q_x:IxR X (rIxT K):=by subst h;exact t_e
theorem i_v:CallR X (.builtin "len") (fun xs H Q=>∃ x n,xs=[x]/\LenV K x H n/\Q (.int n) H):=by subst h;exact u_x
theorem q_p:CallR X (.type "list") (fun xs H Q=>∃ p ys,xs=[.ref p]/\(SqL K H p ys\/SqT K H p ys)/\∀ l,H l=none->Q (.ref l) (upd H l (.lst ys))):=by subst h;exact u_j
theorem q_g:CallR X (.type "tuple") (fun xs H Q=>∃ p ys,xs=[.ref p]/\((SqL K H p ys/\∀ l,H l=none->Q (.ref l) (upd H l (.tup ys)))\/(SqT K H p ys/\Q (.ref p) H))):=by subst h;exact w_p
end
end L2
namespace L2
open PySem PySem.Spec
theorem z_f{H:Hp}{p:Addr}(h:H p=none)(o:HO):Same H (upd H p o):=fun b u q=>by rw [z_r (z_i q h)];exact q
theorem x_c{H H':Hp}{p:Addr}(s:Same H H')(n:H p=none)(o:HO):Same H (upd H' p o):=fun b u q=>by rw [z_r (z_i q n)];exact s b u q
theorem small{n:Nat}(h:n<=100000):n<=sizeLine:=Nat.le_trans h (by decide)
theorem y_b{n:Nat}(h:n<=100000):n<sizeLine:=Nat.lt_of_le_of_lt h (by decide)
theorem zl0:0<=sizeLine:=by decide
theorem zl1:1<=sizeLine:=by decide
theorem zl2:2<=sizeLine:=by decide
theorem zl3:3<=sizeLine:=by decide
theorem zl4:4<=sizeLine:=by decide
theorem s_x{ns:List Int}{i:Int}(h0:0<=i)(h:i<ns.length):∃ v:Int,atI (ns.map V.int) i=some (.int v)/\v∈ns/\v=ns.getD i.toNat 0:=by
 obtain ⟨k,rfl⟩:=Int.eq_ofNat_of_zero_le h0
 have hk:k<ns.length:=by lia
 refine ⟨ns[k],v_x (by rw [List.getElem?_map,List.getElem?_eq_getElem hk]<;>rfl),List.getElem_mem hk,?_⟩
 rw [Int.toNat_natCast,List.getD_eq_getElem?_getD,List.getElem?_eq_getElem hk]
 rfl
def Drawn(rs:List Int):Prop:=∀ r∈rs,0<=r/\r<1000000
theorem Drawn.at{rs:List Int}(d:Drawn rs){i:Int}(h0:0<=i)(h:i<rs.length):∃ v:Int,atI (rs.map V.int) i=some (.int v)/\0<=v/\v<1000000:=by
 obtain ⟨v,h1,h2,_⟩:=s_x h0 h
 exact ⟨v,h1,d v h2⟩
theorem Drawn.snoc{rs:List Int}(d:Drawn rs){v:Int}(h0:0<=v)(h:v<1000000):Drawn (rs++[v]):=fun r hr=>by
 rcases List.mem_append.mp hr with q | q
 ·exact d r q
 ·rw [List.mem_singleton.mp q]
  exact ⟨h0,h⟩
def lsz(n m:Int):Int:=n%m+4*(if decide (V.int (n/m%8)=V.int 5)=true then 1 else 0)
theorem r_i{n m:Int}(h:0<m):0<=lsz n m/\lsz n m<m+4:=by
 have e1:=Int.emod_nonneg n (show m≠0 by lia)
 have e2:=Int.emod_lt_of_pos n h
 unfold lsz
 split<;>lia
def n_x:Sp:=fun vs H Q _=>∃ n m:Int,vs=[.int n,.int m]/\0<=n/\0<m/\m<1000/\Q (.int (lsz n m)) H
structure Wk where
 ins:Nat
 boxes:List (Int×Int)
 gates:List (Int×Int)
 outs:List Int
def Wk.first(W:Wk):Nat:=1+W.ins+W.boxes.length
def Wk.knots(W:Wk):Nat:=W.first+W.gates.length
def GateOk(n:Nat)(gs:List (Int×Int)):Prop:=∀ (k:Nat) (g:Int×Int),gs[k]? = some g->(0<=g.1/\g.1<2*((n:Int)+k))/\0<=g.2/\g.2<2*((n:Int)+k)
structure Wk.Ok(W:Wk):Prop where
 ins:W.ins<=7
 boxes:W.boxes.length<=40
 gates:W.gates.length<=2000
 outs:W.outs.length<=20
 gate:GateOk W.first W.gates
 box:∀ b∈W.boxes,(b.1=0\/b.1=1)/\0<=b.2/\b.2<2*(W.knots:Int)
 out:∀ o∈W.outs,0<=o/\o<2*(W.knots:Int)
def PrsR(H:Hp)(b:Addr)(rs:List Addr)(ps:List (Int×Int)):Prop:=H b=some (.lst (rs.map V.ref))/\Paired (fun r (p:Int×Int)=>H r=some (.tup [.int p.1,.int p.2])) rs ps
theorem z_w{α β:Type}{R S:α->β->Prop}(h:∀ a b,R a b->S a b):∀ {xs:List α} {ys:List β},Paired R xs ys->Paired S xs ys
 | _,_,.nil=>.nil
 | _,_,.cons a b=>.cons (h _ _ a) (z_w h b)
theorem x_g{α β:Type}{R:α->β->Prop}{x:α}{y:β}(h:R x y):∀ {xs:List α} {ys:List β},Paired R xs ys->Paired R (xs++[x]) (ys++[y])
 | _,_,.nil=>.cons h .nil
 | _,_,.cons a b=>.cons a (x_g h b)
theorem pairedApp{α β:Type}{R:α->β->Prop}{us:List α}{vs:List β}(h:Paired R us vs):∀ {xs:List α} {ys:List β},Paired R xs ys->Paired R (xs++us) (ys++vs)
 | _,_,.nil=>h
 | _,_,.cons a b=>.cons a (pairedApp h b)
theorem pairsNew{H:Hp}{t:Addr}{bs:List Addr}{qs:List (Int×Int)}(x y:Int)(hB:Paired (fun r (p:Int×Int)=>H r=some (.tup [.int p.1,.int p.2])) bs qs)(ht:H t=none) :
  Paired (fun r (p:Int×Int)=>upd H t (.tup [.int x,.int y]) r=some (.tup [.int p.1,.int p.2])) (bs++[t]) (qs++[(x,y)]) :=
 x_g (R:=fun r (p:Int×Int)=>upd H t (.tup [.int x,.int y]) r=some (.tup [.int p.1,.int p.2])) z_d (z_w (fun r p q=>by rw [z_r (z_i q ht)];exact q) hB)
theorem PrsR.same{H H':Hp}{b:Addr}{rs:List Addr}{ps:List (Int×Int)}(s:Same H H')(h:PrsR H b rs ps):PrsR H' b rs ps:=⟨s _ _ h.1,z_w (fun r p q=>s _ _ q) h.2⟩
theorem PrsR.length{H:Hp}{b:Addr}{rs:List Addr}{ps:List (Int×Int)}(h:PrsR H b rs ps):rs.length=ps.length:=Paired.length h.2
theorem PrsR.get{H:Hp}{b:Addr}{rs:List Addr}{ps:List (Int×Int)}(h:PrsR H b rs ps){i:Nat}(hi:i<ps.length):∃ r,(rs.map V.ref)[i]? = some (.ref r)/\H r=some (.tup [.int ps[i].1,.int ps[i].2]):=by
 obtain ⟨hb,h⟩:=h
 clear hb
 induction h generalizing i with
 | nil=>exact absurd hi (Nat.not_lt_zero _)
 | cons a r ih =>
  cases i with
  | zero=>exact ⟨_,rfl,a⟩
  | succ k =>
   obtain ⟨q,h1,h2⟩:=ih (i:=k) (by simpa using hi)
   exact ⟨q,by simpa using h1,by simpa using h2⟩
theorem PrsR.push{H:Hp}{b t:Addr}{rs:List Addr}{ps:List (Int×Int)}(h:PrsR H b rs ps)(ht:H t=none)(x y:Int) :
  PrsR (upd (upd H t (.tup [.int x,.int y])) b (.lst (rs.map V.ref++[.ref t]))) b (rs++[t]) (ps++[(x,y)]):=by
 obtain ⟨hb,hp⟩:=h
 have htb:t≠b:=fun e=>by rw [e,hb] at ht;cases ht
 refine ⟨by rw [z_d,List.map_append];rfl,x_g ?_ (z_w (fun r p q=>?_) hp)⟩
 ·rw [z_r htb,z_d]
 ·rw [z_r (fun e=>by rw [e,hb] at q;cases q),z_r (z_i q ht)]
  exact q
theorem PrsR.data{K:PySem.W.Frag}{H:Hp}{rs:List Addr}{ps:List (Int×Int)}(h:Paired (fun r (p:Int×Int)=>H r=some (.tup [.int p.1,.int p.2])) rs ps):RdDs K H (ps.map fun p=>PyData.tuple [.int p.1,.int p.2]) (rs.map V.ref):=by
 induction h with
 | nil=>exact RdDs.nil
 | cons a r ih=>exact RdDs.cons (RdD.tup (SqT.of a) (RdDs.cons (.int _) (RdDs.cons (.int _) .nil))) ih
def dPs(ps:List (Int×Int)):PyData:=.list (ps.map fun p=>PyData.tuple [.int p.1,.int p.2])
theorem q_t(ps:List (Int×Int)):Cmp 2 (dPs ps):=Cmp.list fun d hd=>by
 obtain ⟨p,_,rfl⟩:=List.mem_map.mp hd
 refine Cmp.tuple fun e he=>?_
 simp only [List.mem_cons,List.not_mem_nil,or_false] at he
 rcases he with rfl | rfl<;>exact .int _
theorem PrsR.rd{K:PySem.W.Frag}{H:Hp}{b:Addr}{rs:List Addr}{ps:List (Int×Int)}(h:PrsR H b rs ps):RdD K H (dPs ps) (.ref b):=RdD.lst (SqL.of h.1) (PrsR.data h.2)
def Prs(H:Hp)(b:Addr)(ps:List (Int×Int)):Prop:=∃ rs,PrsR H b rs ps
theorem Prs.same{H H':Hp}{b:Addr}{ps:List (Int×Int)}(s:Same H H')(h:Prs H b ps):Prs H' b ps:=let ⟨rs,q⟩:=h;⟨rs,q.same s⟩
structure IsWkA(H:Hp)(w b g o:Addr)(W:Wk):Prop where
 w:H w=some (.tup [.int W.ins,.ref b,.ref g,.ref o])
 b:Prs H b W.boxes
 g:Prs H g W.gates
 o:H o=some (.lst (W.outs.map V.int))
theorem IsWkA.same{H H':Hp}{w b g o:Addr}{W:Wk}(s:Same H H')(h:IsWkA H w b g o W):IsWkA H' w b g o W:=⟨s _ _ h.w,h.b.same s,h.g.same s,s _ _ h.o⟩
theorem PrsR.ext{H:Hp}{a b:Addr}{rs us:List Addr}{ps qs:List (Int×Int)}(ha:PrsR H a rs ps)(hb:PrsR H b us qs):PrsR (upd H a (.lst (rs.map V.ref++us.map V.ref))) a (rs++us) (ps++qs):=by
 have keep:∀ {r:Addr} {x:Int×Int},H r=some (.tup [.int x.1,.int x.2])->(upd H a (.lst (rs.map V.ref++us.map V.ref))) r=some (.tup [.int x.1,.int x.2]):=fun {r x} h=>by
  rw [z_r (fun e=>by rw [e,ha.1] at h;cases h)]
  exact h
 exact ⟨by rw [z_d,List.map_append],pairedApp (z_w (fun r x h=>keep h) hb.2) (z_w (fun r x h=>keep h) ha.2)⟩
theorem PrsR.other{H:Hp}{a b:Addr}{rs:List Addr}{ps:List (Int×Int)}{xs ys:List V}(h:PrsR H a rs ps)(hb:H b=some (.lst xs))(n:a≠b):PrsR (upd H b (.lst ys)) a rs ps:=by
 refine ⟨by rw [z_r n];exact h.1,z_w (fun r x q=>?_) h.2⟩
 rw [z_r (fun e=>by rw [e,hb] at q;cases q)]
 exact q
theorem PrsR.mk{H:Hp}{a:Addr}{rs:List Addr}{ps:List (Int×Int)}(h:Paired (fun r (p:Int×Int)=>H r=some (.tup [.int p.1,.int p.2])) rs ps)(n:H a=none):PrsR (upd H a (.lst (rs.map V.ref))) a rs ps :=
 ⟨z_d,z_w (fun r x q=>(z_f n _) _ _ q) h⟩
theorem ixN_nat{n k:Nat}(h:k<n):ixN n (k:Int)=some k:=by
 unfold ixN
 rw [if_pos (by lia),if_pos (by lia),Int.toNat_natCast]
theorem x_d{c:Bool}{A B:Prop}(h:c=false)(q:B):if c=true then A else B:=by rw [h];exact q
theorem v_i{c:Bool}{A B:Prop}(h:c=true)(q:A):if c=true then A else B:=by rw [h];exact q
def dWk(W:Wk):PyData:=.tuple [.int W.ins,dPs W.boxes,dPs W.gates,.list (W.outs.map PyData.int)]
theorem dWk_cmp(W:Wk):Cmp 64 (dWk W):=(Cmp.tuple (n:=2) fun d hd=>by
 simp only [List.mem_cons,List.not_mem_nil,or_false] at hd
 rcases hd with rfl | rfl | rfl | rfl
 ·exact .int _
 ·exact q_t _
 ·exact q_t _
 ·exact (Cmp.list (n:=0) (Cmp.ints _)).mono (by decide)).mono (by decide)
theorem dWk_rd{K:PySem.W.Frag}{H:Hp}{w b g o:Addr}{W:Wk}{rs ts:List Addr}(hw:H w=some (.tup [.int W.ins,.ref b,.ref g,.ref o]))(hb:PrsR H b rs W.boxes)(hg:PrsR H g ts W.gates)(ho:H o=some (.lst (W.outs.map V.int))):RdD K H (dWk W) (.ref w) :=
 RdD.tup (SqT.of hw) (.cons (.int _) (.cons hb.rd (.cons hg.rd (.cons (RdD.lst (SqL.of ho) (.ints _)) .nil))))
theorem IsWkA.rd{K:PySem.W.Frag}{H:Hp}{w b g o:Addr}{W:Wk}(h:IsWkA H w b g o W):RdD K H (dWk W) (.ref w) :=
 let ⟨_,hb⟩:=h.b;let ⟨_,hg⟩:=h.g;dWk_rd h.w hb hg h.o
section
variable {K:PySem.W.Frag} {a:Addr} {S:V->St} {te:TE} {H:Hp} {Fin:List V->Hp->Prop}
theorem v_z{xs:List V}(f:V->V)(hS:SqL K H a xs)(hz:xs.length<=100000)(hs:∀ x∈xs,∀ N:V->Hp->Prop,N (f x) H->te (S x) H N)(hd:Fin (xs.map f) H):CompW (Itl K a) S tYes te H Fin:=by
 refine x_w (xs:=xs) (fun i ys H'=>ys=(xs.take i).map f/\H=H') ⟨rfl,rfl⟩ ?_ ?_ ?_ ?_
 ·rintro i ys H' _ ⟨_,rfl⟩
  exact hS
 ·rintro i ys H' hi ⟨rfl,_⟩
  rw [List.length_map,List.length_take]
  exact y_b (by lia)
 ·rintro i x ys H' hx ⟨rfl,rfl⟩
  obtain ⟨hi,he⟩:=List.getElem?_eq_some_iff.mp hx
  unfold tYes
  dsimp only
  rw [if_pos rfl]
  refine hs x (he▸List.getElem_mem hi) _ ⟨?_,rfl⟩
  rw [List.take_succ_eq_append_getElem hi,List.map_append,he]
  rfl
 ·rintro ys H' ⟨rfl,rfl⟩
  rw [List.take_length]
  exact hd
theorem j_j{c:St}{tt:TT}{rs:List Addr}{ps:List (Int×Int)}(Pv:Nat->List V->Hp->Prop)(h0:Pv 0 [] H)(hl:∀ i ys H',i<=ps.length->Pv i ys H'->PrsR H' a rs ps)(hz:∀ i ys H',i<ps.length->Pv i ys H'->ys.length<sizeLine)
  (hs:∀ i ys H' (hi:i<ps.length),Pv i ys H'->tt (some (.int ps[i].1)::some (.int ps[i].2)::c) H' fun b H2=>if b=true then te (some (.int ps[i].1)::some (.int ps[i].2)::c) H2 fun y H3=>Pv (i+1) (ys++[y]) H3 else Pv (i+1) ys H2)
  (hd:∀ ys H',Pv ps.length ys H'->Fin ys H'):CompG (Itl K a) 2 c (gTup K 2 (gCons (gName 0) (gCons (gName 1) gNil))) tt te H Fin:=by
 refine ⟨fun i m ys H=>m=ps.length-i/\i<=ps.length/\Pv i ys H,⟨ps.length,by simp,Nat.zero_le _,h0⟩,?_⟩
 rintro i m ys H' ⟨rfl,hi,p⟩
 have q:=hl i ys H' hi p
 have hlen:(rs.map V.ref).length=ps.length:=by rw [List.length_map,q.length]
 by_cases hlt:i<ps.length
 ·refine .inr ⟨⟨_,(rs.map V.ref)[i]'(by lia),SqL.of q.1,List.getElem?_eq_getElem _⟩,hz i ys H' hlt p,Pv (i+1),fun ys' H' p'=>⟨ps.length-(i+1),by lia,rfl,hlt,p'⟩,fun x H2 y os hos=>?_⟩
  obtain ⟨e,y⟩:=y
  subst e
  obtain ⟨r,h1,h2⟩:=q.get hlt
  have hx:=y _ (SqL.of q.1)
  rw [h1] at hx
  cases hx
  match os,hos with
  | [u,v],_=>exact ⟨r,_,rfl,SqT.of h2,rfl,_,_,rfl,_,_,rfl,rfl,hs i ys _ hlt p⟩
 ·have e:i=ps.length:=by lia
  subst e
  exact .inl ⟨⟨_,SqL.of q.1,Nat.le_of_eq hlen⟩,hd ys H' p⟩
end
open PySem PySem.Spec
theorem y_p{K:PySem.W.Frag}{a:Addr}{c:St}{te:TE}{H:Hp}{Fin:List V->Hp->Prop}{rs:List Addr}{ps:List (Int×Int)}(f:Int×Int->Int×Int)(hP:PrsR H a rs ps)(hz:ps.length<=100000)
  (hs:∀ p∈ps,∀ H1,Same H H1->∀ N:V->Hp->Prop,(∀ t,H1 t=none->N (.ref t) (upd H1 t (.tup [.int (f p).1,.int (f p).2])))->te (some (.int p.1)::some (.int p.2)::c) H1 N)
  (hd:∀ (bs:List Addr) H',Same H H'->Paired (fun r (p:Int×Int)=>H' r=some (.tup [.int p.1,.int p.2])) bs (ps.map f)->Fin (bs.map V.ref) H'):CompG (Itl K a) 2 c (gTup K 2 (gCons (gName 0) (gCons (gName 1) gNil))) tYes te H Fin:=by
 refine j_j (rs:=rs) (ps:=ps) (fun i ys H'=>∃ bs:List Addr,ys=bs.map V.ref/\Same H H'/\Paired (fun r (p:Int×Int)=>H' r=some (.tup [.int p.1,.int p.2])) bs ((ps.take i).map f)) ⟨[],rfl,Same.refl _,.nil⟩ ?_ ?_ ?_ ?_
 ·rintro i ys H' _ ⟨bs,_,s,_⟩
  exact hP.same s
 ·rintro i ys H' hi ⟨bs,rfl,_,hb⟩
  rw [List.length_map,Paired.length hb,List.length_map,List.length_take]
  exact y_b (by lia)
 ·rintro i ys H' hi ⟨bs,rfl,s,hb⟩
  unfold tYes
  dsimp only
  rw [if_pos rfl]
  refine hs _ (List.getElem_mem hi) H' s _ fun t ht=>⟨bs++[t],by rw [List.map_append];rfl,s.trans (z_f ht _),?_⟩
  rw [List.take_succ_eq_append_getElem hi,List.map_append]
  exact pairsNew _ _ hb ht
 ·rintro ys H' ⟨bs,rfl,s,hb⟩
  rw [List.take_length] at hb
  exact hd bs H' s hb
def seF(W:Wk)(e:Int):Int:=if e/2-W.ins-1<0 then e else if e/2-W.ins-1<(W.boxes.length:Int) then ((W.boxes.getD (e/2-W.ins-1).toNat (0,0)).1+e)%2 else e-2*W.boxes.length
theorem xor_bit{f e:Int}(h:f=0\/f=1):Builtin.bitXor f (e%2)=(f+e)%2:=by
 have:e%2=0\/e%2=1:=by lia
 rcases h with rfl | rfl<;>rcases this with q | q<;>rw [q]
 ·rw [show Builtin.bitXor 0 0=0 by decide];lia
 ·rw [show Builtin.bitXor 0 1=1 by decide];lia
 ·rw [show Builtin.bitXor 1 0=1 by decide];lia
 ·rw [show Builtin.bitXor 1 1=0 by decide];lia
theorem n_s{W:Wk}{e:Int}{k:Nat}(h0:0<=e)(h:e<2*((W.first:Int)+k)):0<=seF W e/\seF W e<2*(((1+W.ins:Nat):Int)+k):=by
 have hf:W.first=1+W.ins+W.boxes.length:=rfl
 unfold seF
 split
 ·lia
 ·split
  ·lia
  ·lia
def startGates(W:Wk):List (Int×Int):=W.gates.map fun g=>(seF W g.1,seF W g.2)
theorem startOk{W:Wk}(ok:W.Ok):GateOk (1+W.ins) (startGates W):=fun k g hk=>by
 unfold startGates at hk
 rw [List.getElem?_map] at hk
 obtain ⟨x,hx,rfl⟩:=Option.map_eq_some_iff.mp hk
 obtain ⟨⟨a0,a1⟩,b0,b1⟩:=ok.gate k x hx
 exact ⟨n_s a0 a1,n_s b0 b1⟩
def xr(x e:Int):Int:=if e%2=0 then x else x+1-2*(x%2)
theorem xor_xr(x e:Int):Builtin.bitXor x (e%2)=xr x e:=by
 unfold xr
 have:e%2=0\/e%2=1:=by lia
 rcases this with q | q<;>rw [q]
 ·rw [PyProof.Rows.bitXor_zero,if_pos rfl]
 ·rw [PyProof.Rows.bitXor_and,PyProof.Rows.bitAnd_m1,if_neg (by decide)]
def neF(W:Wk)(e:Int):Int:=if e/2<=(W.ins:Int)+W.boxes.length then e else e+2*W.ins
def teF(W:Wk)(e:Int):Int:=if e<2 then e else if e/2-W.ins-1<0 then e+2*((W.ins:Int)+W.boxes.length) else if e/2-W.ins-1<(W.boxes.length:Int) then xr (neF W (W.boxes.getD (e/2-W.ins-1).toNat (0,0)).2) e else e+2*((W.ins:Int)+W.gates.length)
def y_m(W:Wk):List (Int×Int):=W.gates.map fun g=>(neF W g.1,neF W g.2)
def y_k(W:Wk):List (Int×Int):=W.gates.map fun g=>(teF W g.1,teF W g.2)
theorem r_k{W:Wk}{e:Int}{k:Nat}(h0:0<=e)(h:e<2*((W.first:Int)+k)):0<=neF W e/\neF W e<2*(((1+2*W.ins+W.boxes.length:Nat):Int)+k):=by
 have hf:W.first=1+W.ins+W.boxes.length:=rfl
 unfold neF
 split<;>lia
theorem box_get{W:Wk}(ok:W.Ok){k:Nat}(h:k<W.boxes.length):0<=(W.boxes.getD k (0,0)).2/\(W.boxes.getD k (0,0)).2<2*(W.knots:Int):=by
 rw [List.getD_eq_getElem?_getD,List.getElem?_eq_getElem h]
 exact (ok.box _ (List.getElem_mem h)).2
theorem m_c{W:Wk}(ok:W.Ok){e:Int}{k:Nat}(h0:0<=e)(h:e<2*((W.first:Int)+k)):0<=teF W e/\teF W e<2*(((1+2*W.ins+W.boxes.length+W.gates.length:Nat):Int)+k):=by
 have hf:W.first=1+W.ins+W.boxes.length:=rfl
 have hk:W.knots=1+W.ins+W.boxes.length+W.gates.length:=rfl
 unfold teF
 split
 ·lia
 ·split
  ·lia
  ·split
   ·rename_i h1 h2 h3
    obtain ⟨b0,b1⟩:=box_get ok (k:=(e/2-W.ins-1).toNat) (by lia)
    obtain ⟨n0,n1⟩:=r_k (W:=W) (k:=W.gates.length) b0 (by rw [hk] at b1;lia)
    unfold xr
    split<;>lia
   ·lia
theorem nextOk{W:Wk}(ok:W.Ok):GateOk (1+(2*W.ins+W.boxes.length)) (y_m W++y_k W):=fun k g hk=>by
 have hl:(y_m W).length=W.gates.length:=by unfold y_m;rw [List.length_map]
 by_cases hlt:k<W.gates.length
 ·rw [List.getElem?_append_left (by lia)] at hk
  unfold y_m at hk
  rw [List.getElem?_map] at hk
  obtain ⟨x,hx,rfl⟩:=Option.map_eq_some_iff.mp hk
  obtain ⟨⟨a0,a1⟩,b0,b1⟩:=ok.gate k x hx
  have q1:=r_k a0 a1
  have q2:=r_k b0 b1
  push_cast at q1 q2 ⊢
  exact ⟨⟨q1.1,by lia⟩,q2.1,by lia⟩
 ·rw [List.getElem?_append_right (by lia),hl] at hk
  unfold y_k at hk
  rw [List.getElem?_map] at hk
  obtain ⟨x,hx,rfl⟩:=Option.map_eq_some_iff.mp hk
  obtain ⟨⟨a0,a1⟩,b0,b1⟩:=ok.gate (k-W.gates.length) x hx
  have q1:=m_c ok a0 a1
  have q2:=m_c ok b0 b1
  have hs:((k-W.gates.length:Nat):Int)=(k:Int)-W.gates.length:=by lia
  push_cast at q1 q2 ⊢
  rw [hs] at q1 q2
  exact ⟨⟨q1.1,by lia⟩,q2.1,by lia⟩
structure IsNet(H:Hp)(p g:Addr)(rs:List Addr)(n:Int)(ps:List (Int×Int)):Prop where
 p:H p=some (.tup [.int n,.ref g])
 g:PrsR H g rs ps
def q_o:Sp:=fun vs H Q _=>∃ (w b g o:Addr) (W:Wk),vs=[.ref w]/\IsWkA H w b g o W/\W.Ok/\∀ p g' rs H',H p=none->H g'=none->p≠g'->Same H H'->IsNet H' p g' rs ((W.ins+W.boxes.length:Nat):Int) W.gates->Q (.ref p) H'
def s_i:Sp:=fun vs H Q _=>∃ (w b g o:Addr) (W:Wk),vs=[.ref w]/\IsWkA H w b g o W/\W.Ok/\∀ p g' rs H',H p=none->H g'=none->p≠g'->Same H H'->IsNet H' p g' rs W.ins (startGates W)->Q (.ref p) H'
def u_w:Sp:=fun vs H Q _=>∃ (w b g o:Addr) (W:Wk) (e:Int),vs=[.ref w,.int e]/\IsWkA H w b g o W/\W.Ok/\0<=e/\Q (.int (seF W e)) H
def q_c:Sp:=fun vs H Q _=>∃ (w b g o:Addr) (W:Wk),vs=[.ref w]/\IsWkA H w b g o W/\W.Ok/\∀ p g' rs H',H p=none->H g'=none->p≠g'->Same H H'->IsNet H' p g' rs ((2*W.ins+W.boxes.length:Nat):Int) (y_m W++y_k W)->Q (.ref p) H'
def t_c:Sp:=fun vs H Q _=>∃ (w b g o:Addr) (W:Wk) (e:Int),vs=[.ref w,.int e]/\IsWkA H w b g o W/\W.Ok/\0<=e/\Q (.int (neF W e)) H
def t_j:Sp:=fun vs H Q _=>∃ (w b g o:Addr) (W:Wk) (e:Int),vs=[.ref w,.int e]/\IsWkA H w b g o W/\W.Ok/\0<=e/\Q (.int (teF W e)) H
open PySem PySem.Spec PyProof.Rows
theorem pe_comp1{X:Cx}{scope:Scope}{elt iter:Expr}{x:Str}{px:Pos}{c:Expr}{pos:Pos}{wi:TI}{tt:TT}{te:TE}(capt:List Nat)
  (hx0:∀ e s,¬X.xe e s) (hc:X.calm=true) (hi:PI X (.Name x px) iter wi)
  (hT:∀ C s H ex,PT (cxComp X [x] capt scope C s H ex) c tt) (hE:∀ C s H ex,PE (cxComp X [x] capt scope C s H ex) elt te)
  (hk:compOk scope X.env.scope [x] (capt.map fun j=>X.N.getD j "")=true) (hcap:∀ j∈capt,j<X.N.length) (hnd:(x::capt.map fun j=>X.N.getD j "").Nodup)
  (hs:∀ y,foldedSetIterable iter X.env y=pure y:=by intro _;rfl):PE X (.ListComp elt [⟨.Name x px,iter,[c],0⟩] scope pos) (tComp capt wi tt te) :=
 y_s capt hx0 hc hi (fun C s H ex=>pts_one (hT C s H ex)) hE hk hcap hnd hs
theorem pairedSn{α β:Type}{R:α->β->Prop}{xs us:List α}{ys vs:List β}(p:Paired R xs ys)(q:Paired R us vs):Paired R (xs++us) (ys++vs):=pairedApp q p
theorem y_v{α β:Type}{R:α->β->Prop}:∀ {xs:List α} {ys:List β} {i:Nat} {x:α},Paired R xs ys->xs[i]? = some x->∃ y,ys[i]? = some y/\R x y
 | _,_,i,x,.nil,h=>by simp at h
 | _,_,0,x,.cons a b,h=>by
  simp at h
  subst h
  exact ⟨_,rfl,a⟩
 | _,_,i+1,x,.cons a b,h=>by
  rw [List.getElem?_cons_succ] at h ⊢
  exact y_v b h
theorem pairedGet'{α β:Type}{R:α->β->Prop}:∀ {xs:List α} {ys:List β} {i:Nat} {y:β},Paired R xs ys->ys[i]? = some y->∃ x,xs[i]? = some x/\R x y
 | _,_,i,x,.nil,h=>by simp at h
 | _,_,0,x,.cons a b,h=>by
  simp at h
  subst h
  exact ⟨_,rfl,a⟩
 | _,_,i+1,x,.cons a b,h=>by
  rw [List.getElem?_cons_succ] at h ⊢
  exact pairedGet' b h
theorem y_u{α:Type}{xs:List α}{i:Nat}{x:α}(h:xs[i]? = some x):xs.take (i+1)=xs.take i++[x]:=by
 obtain ⟨hi,he⟩:=List.getElem?_eq_some_iff.mp h
 rw [List.take_succ_eq_append_getElem hi,he]
variable {X:Cx}
theorem m_i:CallR X (.type "range") (fun xs H Q=>∃ n:Int,xs=[.int n]/\∀ p,H p=none->Q (.ref p) (upd H p (.rng 0 n))):=by
 intro pins s σ H xs us Q I r h
 obtain ⟨n,rfl,q⟩:=h
 obtain ⟨u,rfl,rx⟩:=vals1 r
 obtain ⟨t,rfl⟩:=rx
 refine call_range_1 ?_
 exact ⟨.ref s.heap.objs.size,_,I.laid (a:=s.heap.objs.size) (o:=.rng 0 n) (fun _ _ e=>Heap.get?_push_of_some _ e) (Nat.le_refl _) ⟨_,_,_,Heap.get?_push_size _ rfl⟩,rfl,q _ (I.hok.fresh (Nat.le_refl _))⟩
theorem j_t{n:Nat}{acc:Array Value}(h:ItemsOf (fun i v=>∃ t,v=Value.int ((0:Int)+i*1) t) acc n):Vals ((List.range n).map fun i=>V.int (i:Nat)) acc.toList:=by
 obtain ⟨h1,h2⟩:=h
 have hl:acc.toList.length=n:=by rw [Array.length_toList];exact h1
 have go:∀ (l:List Value) (k m:Nat),l.length=m->(∀ j v,l[j]? = some v->∃ t,v=Value.int ((0:Int)+((k+j:Nat):Int)*1) t)->Vals ((List.range' k m).map fun i=>V.int (i:Nat)) l:=by
  intro l
  induction l with
  | nil =>
   intro k m hm _
   subst hm
   exact .nil
  | cons v l ih =>
   intro k m hm hv
   cases m with
   | zero=>cases hm
   | succ m =>
    rw [List.range'_succ,List.map_cons]
    refine .cons ?_ (ih (k+1) m (by simpa using hm) fun j u hj=>?_)
    ·obtain ⟨t,rfl⟩:=hv 0 v rfl
     refine ⟨t,?_⟩
     congr 1
     lia
    ·obtain ⟨t,e⟩:=hv (j+1) u (by simpa using hj)
     exact ⟨t,by rw [e];congr 1;push_cast;lia⟩
 rw [List.range_eq_range']
 refine go acc.toList 0 n hl fun j v hj=>?_
 obtain ⟨t,e⟩:=h2 j v (by simpa using hj)
 exact ⟨t,by rw [e,Nat.zero_add]⟩
theorem q_q(hc:X.calm=true):CallR X (.type "list") (fun xs H Q=>∃ p n,xs=[.ref p]/\H p=some (.rng 0 n)/\0<=n/\n<=10000/\∀ l,H l=none->Q (.ref l) (upd H l (.lst ((List.range n.toNat).map fun i=>V.int (i:Nat))))):=by
 intro pins s σ H xs us Q I r h
 obtain ⟨p,n,rfl,hp,n0,n1,q⟩:=h
 obtain ⟨u,rfl,rx⟩:=vals1 r
 cases rx
 obtain ⟨t,u,v,e⟩:∃ t u v,s.heap.get? p=some { cls:=.type "range",data:=.fields #[.int 0 t,.int n u,.int 1 v] }:=I.hok p _ hp
 have hsz:Builtin.Range.rangeSize 0 n 1=((n.toNat:Nat):Int):=by rw [rangeSize_one];split<;>lia
 refine call_list_range (I.ok.hd hc) e (small_one (by decide) (by decide) (by lia) (by lia)) hsz (Nat.le_trans (show n.toNat<=10000 by lia) (by decide)) fun h' tk acc c' kp e' hi=>?_
 refine ⟨.ref s.heap.objs.size,_,I.laid (a:=s.heap.objs.size) (o:=.lst ((List.range n.toNat).map fun i=>V.int (i:Nat))) kp (Nat.le_refl _) ⟨?_,acc.toList,c',j_t hi,e'⟩,rfl,q _ (I.hok.fresh (Nat.le_refl _))⟩
 rw [List.length_map,List.length_range]
 exact small (by lia)
open PySem
theorem xor_sum(a b:Nat):(a^^^b)+2*(a&&&b)=a+b:=by
 have o:((a^^^b)|||(a&&&b))=a|||b:=Nat.eq_of_testBit_eq fun i=>by
  rw [Nat.testBit_or,Nat.testBit_or,Nat.testBit_xor,Nat.testBit_and]
  generalize a.testBit i=u;generalize b.testBit i=v
  revert u v;decide
 have n:((a^^^b)&&&(a&&&b))=0:=Nat.eq_of_testBit_eq fun i=>by
  rw [Nat.testBit_and,Nat.testBit_xor,Nat.testBit_and,Nat.zero_testBit]
  generalize a.testBit i=u;generalize b.testBit i=v
  revert u v;decide
 have x:=PyProof.Rows.nat_or_add_and (a^^^b) (a&&&b)
 rw [o,n] at x
 have y:=PyProof.Rows.nat_or_add_and a b
 clear o n
 lia
theorem v_c(a b:Nat):Builtin.bitXor (a:Int) (b:Int)=((a^^^b:Nat):Int):=by
 rw [PyProof.Rows.bitXor_and,PyProof.Rows.bitAnd_pp (by lia) (by lia),Int.toNat_natCast,Int.toNat_natCast]
 have h:=xor_sum a b
 lia
theorem x_v(x:Nat):(x^^^1)/2=x/2:=by
 rw [Nat.xor_div_two]
 exact Nat.xor_zero _
theorem s_z(x:Nat):(x^^^1)%2=1-x%2:=by
 have h:(x^^^1)%2=1↔¬(x%2=1↔1%2=1):=Nat.xor_mod_two_eq_one
 have hx:x%2=0\/x%2=1:=by lia
 have hy:(x^^^1)%2=0\/(x^^^1)%2=1:=by lia
 rcases hx with hx | hx<;>rcases hy with hy | hy<;>simp_all
theorem j_k(x:Nat):x^^^1^^^1=x:=by rw [Nat.xor_assoc,Nat.xor_self,Nat.xor_zero]
theorem j_l(x:Nat):x^^^1≠x:=by have:=s_z x;intro e;rw [e] at this;lia
theorem q_s{k:Nat}:(2*k)^^^1=2*k+1:=by have:=x_v (2*k);have:=s_z (2*k);lia
theorem cx_odd{k:Nat}:(2*k+1)^^^1=2*k:=by have:=x_v (2*k+1);have:=s_z (2*k+1);lia
theorem f_o(x p:Nat)(h:p<2):(x^^^p)/2=x/2:=by
 have:p=0\/p=1:=by lia
 rcases this with rfl | rfl
 ·rw [Nat.xor_zero]
 ·exact x_v x
theorem l_z{L:List Nat}{k j v:Nat}(h:k<L.length):(L.set k v).getD j 0=if j=k then v else L.getD j 0:=by
 rw [List.getD_eq_getElem?_getD,List.getElem?_set,List.getD_eq_getElem?_getD]
 by_cases e:k=j
 ·subst e;rw [if_pos rfl,if_pos h,if_pos rfl];rfl
 ·rw [if_neg e,if_neg (fun h=>e h.symm)]
structure Uf(n:Nat)(L:List Nat)(R:Nat->Nat):Prop where
 len:L.length=n
 ok:∀ k,k<n->(L.getD k 0=2*k/\R (2*k)=2*k/\R (2*k+1)=2*k+1)\/(L.getD k 0/2<k/\R (2*k)=R (L.getD k 0)/\R (2*k+1)=R (L.getD k 0^^^1))
section
variable {n:Nat} {L:List Nat} {R:Nat->Nat}
theorem Uf.step(u:Uf n L R){e:Nat}(h:e/2<n):(L.getD (e/2) 0=2*(e/2)/\R e=e)\/(L.getD (e/2) 0/2<e/2/\R e=R (L.getD (e/2) 0^^^(e%2))):=by
 have he:e%2=0\/e%2=1:=by lia
 rcases u.ok (e/2) h with ⟨h1,h2,h3⟩ | ⟨h1,h2,h3⟩
 ·refine .inl ⟨h1,?_⟩
  rcases he with he | he
  ·rw [show 2*(e/2)=e by lia] at h2;exact h2
  ·rw [show 2*(e/2)+1=e by lia] at h3;exact h3
 ·refine .inr ⟨h1,?_⟩
  rcases he with he | he
  ·rw [show 2*(e/2)=e by lia] at h2;rw [he,Nat.xor_zero];exact h2
  ·rw [show 2*(e/2)+1=e by lia] at h3;rw [he];exact h3
theorem Uf.all(u:Uf n L R):∀ k,k<n->∀ e,e/2=k->R e/2<=k/\L.getD (R e/2) 0=2*(R e/2)/\R (e^^^1)=R e^^^1:=by
 intro k
 induction k using Nat.strongRecOn with
 | _ k ih =>
  intro hk e he
  have h1:=u.step (e:=e) (by lia)
  have h2:=u.step (e:=e^^^1) (by rw [x_v];lia)
  rw [x_v,s_z] at h2
  rcases h1 with ⟨a1,a2⟩ | ⟨a1,a2⟩
  ·rcases h2 with ⟨b1,b2⟩ | ⟨b1,b2⟩
   ·rw [a2,b2]
    exact ⟨by lia,a1,rfl⟩
   ·lia
  ·rcases h2 with ⟨b1,b2⟩ | ⟨b1,b2⟩
   ·lia
   ·generalize hv:L.getD (e/2) 0=v at a1 a2 b1 b2
    have hp:e%2<2:=by lia
    have:=ih (v/2) (by lia) (by lia) (v^^^(e%2)) (f_o v _ hp)
    rw [a2,b2]
    refine ⟨by lia,this.2.1,?_⟩
    rw [<-this.2.2]
    congr 1
    have:e%2=0\/e%2=1:=by lia
    rcases this with h | h<;>rw [h]
    ·rw [Nat.xor_zero]
    ·rw [j_k,Nat.xor_zero]
theorem Uf.le(u:Uf n L R){e:Nat}(h:e/2<n):R e/2<=e/2:=(u.all _ h e rfl).1
theorem Uf.cx(u:Uf n L R){e:Nat}(h:e/2<n):R (e^^^1)=R e^^^1:=(u.all _ h e rfl).2.2
theorem Uf.rr(u:Uf n L R){e:Nat}(h:e/2<n):R (R e)=R e:=by
 have h1:=u.all _ h e rfl
 rcases u.step (e:=R e) (by lia) with h2 | h2
 ·exact h2.2
 ·lia
theorem Uf.lt(u:Uf n L R){e:Nat}(h:e/2<n)(nr:¬L.getD (e/2) 0/2=e/2):R e/2<e/2/\L.getD (e/2) 0/2<e/2/\R e=R (L.getD (e/2) 0^^^(e%2)):=by
 rcases u.step h with h1 | h1
 ·lia
 ·have hp:e%2<2:=by lia
  have h3:=f_o (L.getD (e/2) 0) _ hp
  have h2:=u.le (e:=L.getD (e/2) 0^^^(e%2)) (by lia)
  rw [<-h1.2] at h2
  exact ⟨by lia,h1⟩
theorem Uf.here(u:Uf n L R){e:Nat}(h:e/2<n)(r:L.getD (e/2) 0/2=e/2):R e=e:=by
 rcases u.step h with h1 | h1
 ·exact h1.2
 ·lia
theorem Uf.press(u:Uf n L R){w:Nat}(hw:w/2<n)(nr:R w/2<w/2):Uf n (L.set (w/2) (R w^^^(w%2))) R:=by
 refine ⟨by rw [List.length_set];exact u.len,fun k hk=>?_⟩
 rw [l_z (by rw [u.len];exact hw)]
 by_cases e:k=w/2
 ·rw [if_pos e]
  have h1:=u.rr hw
  have h2:=u.cx hw
  have h3:=u.cx (e:=R w) (by lia)
  rw [h1] at h3
  have hp:w%2=0\/w%2=1:=by lia
  rcases hp with hp | hp
  ·have e2:2*k=w:=by lia
   rw [hp,Nat.xor_zero,e2,show w+1=w^^^1 by rw [<-e2,q_s],h1,h2,h3]
   exact .inr ⟨by lia,rfl,rfl⟩
  ·have e2:2*k+1=w:=by lia
   rw [hp,j_k,e2,show 2*k=w^^^1 by rw [<-e2,cx_odd],h1,h2,h3,x_v]
   exact .inr ⟨by lia,rfl,rfl⟩
 ·rw [if_neg e]
  exact u.ok k hk
def jn(R:Nat->Nat)(lo hi:Nat)(e:Nat):Nat:=if R e=hi then lo else if R e=hi^^^1 then lo^^^1 else R e
theorem Uf.join(u:Uf n L R){lo hi:Nat}(h1:R lo=lo)(h2:R hi=hi)(hl:lo/2<hi/2)(hn:hi/2<n):Uf n (L.set (hi/2) (lo^^^(hi%2))) (jn R lo hi):=by
 have hd:=x_v hi
 have hld:=x_v lo
 have h3:=u.cx (e:=lo) (by lia)
 have h4:=u.cx (e:=hi) (by lia)
 rw [h1] at h3
 rw [h2] at h4
 have n1:lo≠hi:=by lia
 have n2:lo≠hi^^^1:=by lia
 have n3:lo^^^1≠hi:=by lia
 have n4:lo^^^1≠hi^^^1:=by lia
 have q1:jn R lo hi lo=lo:=by unfold jn;rw [h1,if_neg n1,if_neg n2]
 have q2:jn R lo hi (lo^^^1)=lo^^^1:=by unfold jn;rw [h3,if_neg n3,if_neg n4]
 have q3:jn R lo hi hi=lo:=by unfold jn;rw [if_pos h2]
 have q4:jn R lo hi (hi^^^1)=lo^^^1:=by unfold jn;rw [h4,if_neg (j_l hi),if_pos rfl]
 refine ⟨by rw [List.length_set];exact u.len,fun k hk=>?_⟩
 rw [l_z (by rw [u.len];exact hn)]
 by_cases e:k=hi/2
 ·rw [if_pos e]
  have hp:hi%2=0\/hi%2=1:=by lia
  rcases hp with hp | hp
  ·have e2:2*k=hi:=by lia
   rw [hp,Nat.xor_zero,e2,show hi+1=hi^^^1 by rw [<-e2,q_s],q1,q2,q3,q4]
   exact .inr ⟨by lia,rfl,rfl⟩
  ·have e2:2*k+1=hi:=by lia
   rw [hp,j_k,e2,show 2*k=hi^^^1 by rw [<-e2,cx_odd],q1,q2,q3,q4,hld]
   exact .inr ⟨by lia,rfl,rfl⟩
 ·rw [if_neg e]
  have cong:∀ a b,R a=R b->jn R lo hi a=jn R lo hi b:=fun a b h=>by unfold jn;rw [h]
  rcases u.ok k hk with ⟨a1,a2,a3⟩ | ⟨a1,a2,a3⟩
  ·refine .inl ⟨a1,?_,?_⟩
   ·unfold jn;rw [a2,if_neg (by lia),if_neg (by lia)]
   ·unfold jn;rw [a3,if_neg (by lia),if_neg (by lia)]
  ·exact .inr ⟨a1,cong _ _ a2,cong _ _ a3⟩
theorem Uf.init(n:Nat):Uf n ((List.range n).map fun k=>2*k) id:=by
 refine ⟨by rw [List.length_map,List.length_range],fun k hk=>.inl ⟨?_,rfl,rfl⟩⟩
 rw [List.getD_eq_getElem?_getD,List.getElem?_map,List.getElem?_range hk]
 rfl
end
theorem o_p{v:V}:([(("lesser" : Str),v)]:List (Str×V)).lookup ("lesser" : Str)=some v:=by simp [List.lookup]
theorem t_d{v:V}{m:Str}(h:(m == ("lesser" : Str))=false):([(("lesser" : Str),v)]:List (Str×V)).lookup m=none:=by simp [List.lookup,h]
def z_g(L:List Nat):List V:=L.map fun k=>V.int (k:Nat)
theorem z_o(L:List Nat):(z_g L).length=L.length:=List.length_map _
def ClsAt(C:Addr)(H:Hp)(o l:Addr)(n:Nat)(R:Nat->Nat):Prop:=(∃ dx,H o=some (.ins C dx [("lesser",.ref l)]))/\∃ L:List Nat,H l=some (.lst (z_g L))/\Uf n L R/\n<=4200
def Ch(l:Addr)(H H':Hp):Prop:=∀ b o,b≠l->H b=some o->H' b=some o
theorem Ch.refl{l:Addr}{H:Hp}:Ch l H H:=fun _ _ _ e=>e
theorem Ch.trans{l:Addr}{H H1 H2:Hp}(a:Ch l H H1)(b:Ch l H1 H2):Ch l H H2:=fun c o n e=>b c o n (a c o n e)
theorem Same.ch{l:Addr}{H H':Hp}(s:Same H H'):Ch l H H':=fun c o _ e=>s c o e
theorem Ch.put{l:Addr}{H:Hp}(o:HO):Ch l H (upd H l o):=fun b o' n e=>by rw [z_r n];exact e
theorem Ch.same{l:Addr}{H H1 H2:Hp}(n:H l=none)(a:Same H H1)(b:Ch l H1 H2):Same H H2:=fun c o e=>b c o (z_i e n) (a c o e)
theorem ClsAt.same{C o l:Addr}{H H':Hp}{n:Nat}{R:Nat->Nat}(c:ClsAt C H o l n R)(s:Same H H'):ClsAt C H' o l n R:=by
 obtain ⟨⟨dx,h1⟩,L,h2,u,h3⟩:=c
 exact ⟨⟨dx,s _ _ h1⟩,L,s _ _ h2,u,h3⟩
theorem ClsAt.ne{C o l:Addr}{H:Hp}{n:Nat}{R:Nat->Nat}(c:ClsAt C H o l n R):o≠l:=by
 obtain ⟨⟨dx,h1⟩,L,h2,u,h3⟩:=c
 intro e
 rw [e,h2] at h1
 cases h1
theorem at_nats{L:List Nat}{c:Nat}(h:c/2<L.length):atI (z_g L) ((c:Int)/2)=some (.int ((L.getD (c/2) 0:Nat):Int)):=by
 rw [show (c:Int)/2=((c/2:Nat):Int) by lia]
 refine v_x ?_
 unfold z_g
 rw [List.getElem?_map,List.getD_eq_getElem?_getD,List.getElem?_eq_getElem h]
 rfl
theorem o_t(L:List Nat)(k v:Nat):(z_g L).set k (.int (v:Nat))=z_g (L.set k v):=by
 unfold z_g
 rw [List.map_set]
def n_u(C:Addr):Sp:=fun vs H Q _=>∃ (o dx:Addr) (n:Nat),vs=[.ref o,.int (n:Int)]/\H o=some (.ins C dx [])/\n<=4200/\∀ l H',H l=none->Ch o H H'->ClsAt C H' o l n id->Q .non H'
def w_s(C:Addr):Sp:=fun vs H Q _=>∃ (o l:Addr) (n:Nat) (R:Nat->Nat) (e:Nat),vs=[.ref o,.int (e:Int)]/\ClsAt C H o l n R/\e/2<n/\∀ H',Ch l H H'->ClsAt C H' o l n R->Q (.int (R e:Nat)) H'
def t_b(C:Addr):Sp:=fun vs H Q _=>∃ (o l:Addr) (n:Nat) (R:Nat->Nat) (a b:Nat),vs=[.ref o,.int (a:Int),.int (b:Int)]/\ClsAt C H o l n R/\a/2<n/\b/2<n/\∀ H',Ch l H H'->ClsAt C H' o l n R->Q (.bl (decide (R a=R b))) H'
def t_x(C : Addr) : Sp := fun vs H Q _ => ∃ (o l : Addr) (n : Nat) (R : Nat -> Nat) (a b : Nat), vs = [.ref o, .int (a : Int), .int (b : Int)] /\ ClsAt C H o l n R /\ a / 2 < n /\ b / 2 < n /\
  ((R a = R b /\ ∀ H', Ch l H H' -> ClsAt C H' o l n R -> Q (.bl true) H') \/ (R a = R b ^^^ 1 /\ ∀ H', Ch l H H' -> ClsAt C H' o l n R -> Q (.bl false) H') \/
   (R a ≠ R b /\ R a ≠ R b ^^^ 1 /\ ∀ H', Ch l H H' -> ClsAt C H' o l n (jn R (min (R a) (R b)) (max (R a) (R b))) -> Q (.bl true) H'))
open PySem
theorem k_c{L:List Nat}{w:Nat}(h:w/2<L.length):ixN (z_g L).length ((w:Int)/2)=some (w/2):=by
 rw [z_o,show (w:Int)/2=((w/2:Nat):Int) by lia]
 exact ixN_nat h
theorem h_x{H H1:Hp}{o dx C:Addr}(ho:H o=none)(hdx:H dx=none)(ch:Ch o (upd (upd H dx (.own o)) o (.ins C dx [])) H1):Same H H1:=fun b w e=>by
 have n1:b≠o:=z_i e ho
 have n2:b≠dx:=z_i e hdx
 refine ch b w n1 ?_
 rw [z_r n1,z_r n2]
 exact e
theorem h_w{H:Hp}{o dx l:Addr}{a b:HO}(h:(upd (upd H dx a) o b) l=none):H l=none:=by
 by_cases e1:l=o
 ·rw [e1,z_d] at h;cases h
 ·by_cases e2:l=dx
  ·rw [z_r e1,e2,z_d] at h;cases h
  ·rw [z_r e1,z_r e2] at h;exact h
theorem nats_at{ws:List Nat}{k:Nat}(h:k<ws.length):atI (z_g ws) (k:Int)=some (.int (ws[k]:Nat)):=v_x (by unfold z_g;rw [List.getElem?_map,List.getElem?_eq_getElem h];rfl)
open PySem PySem.Spec PyProof.Rows
def Itrs(lo c:Int)(n:Nat):It:=⟨fun i _=>i<n,fun i H x H'=>H'=H/\x = .int (lo+i*c),fun i _=>n<=i⟩
theorem l_r{P:Program}{w:World}{K:PySem.W.Frag}{tg:Expr}(it:Addr)(lo c:Int)(n:Nat):Turn P w K tg (Itrs lo c n) [it] it (fun i h=>IsRangeIter h it (lo+(i:Nat)*c) ((n:Int)-(i:Nat)) c) where
 mem:=by simp
 obj:=fun i h st b hb=>by
  have e:b=it:=by simpa using hb
  subst e
  exact ⟨_,st,fun v z=>by
   have z':Data.fields _=Data.cell v:=z
   cases z'⟩
 keep:=fun i h h' st k=>k it (by simp) _ st
 item:=by
  intro X hP hw hK hc i pins s σ H E I hf st hg
  subst hP hw hK
  obtain ⟨f0,f1,f2,f3,f4,f5⟩:=hf it (by simp)
  have W:=Walks.range (prog:=X.prog) (w:=X.w) (I.ok.hd hc) it lo c n
  refine W.item i s _ _ hg st fun v h' tk hv st' kk=>?_
  obtain ⟨t,rfl⟩:=hv
  have I1:Inv X pins σ H { s with heap:=h',toks:=tk }:=I.turned (fun b o hb e=>kk b o (by simpa using hb) e) f0 f1 f3 f4 f5
  exact ⟨_,rfl,go_of (s:={ s with heap:=h',toks:=tk }) (n := "range_iterator") st' rfl rfl (by decide) ⟨.int (lo+i*c),H,I1,⟨t,rfl⟩,⟨rfl,rfl⟩,st',fun b hb=>(hf b hb).1⟩⟩
 done:=by
  intro X hP hw hK hc i pins s σ H E I hf st hg
  subst hP hw hK
  obtain ⟨f0,f1,f2,f3,f4,f5⟩:=hf it (by simp)
  exact wpAny_pyNext_range_end (I.ok.hd hc) st (by have:n<=i:=hg;lia) fun h' eb=>⟨rfl,I.turned (t':=s.toks) (fun b o hb e=>eb b o hb e) f0 f1 f3 f4 f5⟩
 self:=fun _ _ _ _ _ st h=>wpAny_pyIter_rangeiter st h
section
variable {X:Cx} {tg:Expr}
theorem g_y{pins:List (Addr×Obj)}{σ:St}{H:Hp}{s:Shared}{R:It->Hp->Prop}{E:Value->Shared->Prop}{lo hi c:Int}{t u v:Tok}{tk:Nat}(I:Inv X pins σ H s)(hsm:Builtin.Range.small lo hi c=true)
  (q:R (Itrs lo c (Builtin.Range.rangeSize lo hi c).toNat) H):wpAny (model X.prog X.w) X.A (pyIter (.ref s.heap.objs.size)) (PIE X pins σ tg R) E { s with heap:=s.heap.push { cls:=.type "range",data:=.fields #[.int lo t,.int hi u,.int c v] },toks:=tk }:=by
 refine wpAny_pyIter_range (IsRange.new ..) hsm ?_
 have I1:Inv X pins σ H { s with heap:=s.heap.push { cls:=.type "range",data:=.fields #[.int lo t,.int hi u,.int c v] },toks:=tk }:=I.kept fun b o e=>Heap.get?_push_of_some _ e
 refine ⟨(s.heap.push { cls:=.type "range",data:=.fields #[.int lo t,.int hi u,.int c v] }).objs.size,[(s.heap.push { cls:=.type "range",data:=.fields #[.int lo t,.int hi u,.int c v] }).objs.size],_,_,H,rfl,
  I1.kept (t':=tk) fun b o e=>Heap.get?_push_of_some _ e,l_r _ lo c _,?_,fun b hb=>?_,q⟩
 ·have e1:lo+((0:Nat):Int)*c=lo:=by simp
  have e2:(((Builtin.Range.rangeSize lo hi c).toNat:Nat):Int)-((0:Nat):Int)=Builtin.Range.rangeSize lo hi c:=by have:=rangeSize_toNat lo hi c;lia
  show IsRangeIter _ _ (lo+((0:Nat):Int)*c) ((((Builtin.Range.rangeSize lo hi c).toNat:Nat):Int)-((0:Nat):Int)) c
  rw [e1,e2]
  exact Heap.get?_push_size _ rfl
 ·have e:b=(s.heap.push { cls:=.type "range",data:=.fields #[.int lo t,.int hi u,.int c v] }).objs.size:=by simpa using hb
  subst e
  exact I1.fpOk (Nat.le_refl _) (I1.hok.fresh (Nat.le_refl _))
def iRng3(ta:TA):TI:=fun σ H R=>ta σ H fun vs H1=>∃ i j c:Int,vs=[.int i,.int j,.int c]/\(c≠0/\c.natAbs<1073741824/\Builtin.Range.small i j c=true)/\R (Itrs i c (Builtin.Range.rangeSize i j c).toNat) H1
theorem g_p{a b c:Expr}{ta:TA}{p pos:Pos}(hg:Gl X "range")(hm:X.mg "range" = none)(ha:PA X [a,b,c] ta)(hs:starEach [a,b,c] X.env=[(false,eval a X.env),(false,eval b X.env),(false,eval c X.env)]:=by rfl)(hs2:starEach [b,c] X.env=[(false,eval b X.env),(false,eval c X.env)]:=by rfl) :
  PI X tg (.Call (.Name "range" p) [a,b,c] [] pos) (iRng3 ta):=by
 intro pins s σ H R I h
 refine Call_ (t_f I hg hm boot_range (PyProof.Rows.callWith_type1 (thn (ha pos pins s σ H _ I h) fun us s1 ⟨vs,H1,I1,r1,q1⟩=>?_) (by rw [hs,hs2]) (by rw [hs2];rfl)))
 obtain ⟨i,j,k,e,⟨q1,q2,q3⟩,q⟩:=q1
 subst e
 cases r1 with
 | cons r rr =>
  cases rr with
  | cons r' rr =>
   cases rr with
   | cons r'' rr =>
    cases rr
    obtain ⟨t,rfl⟩:=r
    obtain ⟨t',rfl⟩:=r'
    obtain ⟨t'',rfl⟩:=r''
    exact call_range_3 q1 (g_y I1 q3 q) (.inl (PyProof.noPylong_small q2))
end
theorem j_n{lo c:Int}{n:Nat}{g:TG}{tb:TS}{D:Ends}{σ:St}{H:Hp}(Pv:Nat->St->Hp->Prop)(h0:Pv 0 σ H)
  (hs:∀ i σ H,i<n->Pv i σ H->g (.int (lo+i*c)) σ H fun σ2 H2=>tb { D with nx:=Pv (i+1),ct:=Pv (i+1),bk:=D.nx } σ2 H2) (hd:∀ σ H,Pv n σ H->D.nx σ H) :
  ∃ W:Nat->Nat->St->Hp->Prop,(∃ m,W 0 m σ H)/\∀ i m σ H,W i m σ H ->
   ((Itrs lo c n).stop i H/\D.nx σ H)\/((Itrs lo c n).go i H/\∃ N:St->Hp->Prop,(∀ σ' H',N σ' H'->∃ m',m'<m/\W (i+1) m' σ' H')/\∀ x H',(Itrs lo c n).yld i H x H'->g x σ H' fun σ2 H2=>tb { D with nx:=N,ct:=N,bk:=D.nx } σ2 H2):=by
 refine ⟨fun i m σ H=>m=n-i/\i<=n/\Pv i σ H,⟨n,by simp,Nat.zero_le _,h0⟩,?_⟩
 rintro i m σ H ⟨rfl,hi,p⟩
 by_cases hlt:i<n
 ·refine .inr ⟨hlt,Pv (i+1),fun σ' H' p'=>⟨n-(i+1),by lia,rfl,hlt,p'⟩,fun x H' y=>?_⟩
  obtain ⟨e,y⟩:=y
  subst e y
  exact hs i σ _ hlt p
 ·have e:i=n:=by lia
  subst e
  exact .inl ⟨Nat.le_refl _,hd σ H p⟩
open PySem PySem.Spec PyProof.Rows
def Lb(n:Nat)(Ls:List Nat)(R:Nat->Nat):Prop:=Ls.length=2*n/\∀ a b,a<2*n->b<2*n->(Ls.getD a 0=Ls.getD b 0↔R a=R b)
theorem Lb.start(n:Nat):Lb n (List.range (2*n)) id:=by
 have e:∀ a,a<2*n->(List.range (2*n)).getD a 0=a:=fun a h=>by rw [List.getD_eq_getElem?_getD,List.getElem?_range h];rfl
 refine ⟨List.length_range,fun a b ha hb=>?_⟩
 rw [e a ha,e b hb]
 exact Iff.rfl
theorem Uf.least{n:Nat}{L:List Nat}{R:Nat->Nat}(u:Uf n L R){e j:Nat}(he:e/2<n)(hj:j/2<n)(h:R j=R e):R e<=j:=by
 have h1:=u.le hj
 rw [h] at h1
 have h2:=u.all _ he e rfl
 by_cases q:R e/2=j/2
 ·have h3:L.getD (j/2) 0=2*(j/2):=by rw [<-q];exact h2.2.1
  have h4:=u.here hj (by lia)
  lia
 ·lia
def jl(Ls:List Nat)(one other:Nat):List Nat:=Ls.map fun x=>if x=Ls.getD (other^^^1) 0 then Ls.getD (one^^^1) 0 else if x=Ls.getD other 0 then Ls.getD one 0 else x
theorem jl_get{Ls:List Nat}{one other a:Nat}(h:a<Ls.length):(jl Ls one other).getD a 0=if Ls.getD a 0=Ls.getD (other^^^1) 0 then Ls.getD (one^^^1) 0 else if Ls.getD a 0=Ls.getD other 0 then Ls.getD one 0 else Ls.getD a 0:=by
 unfold jl
 rw [List.getD_eq_getElem?_getD,List.getElem?_map,List.getElem?_eq_getElem h]
 have e:Ls.getD a 0=Ls[a]:=by rw [List.getD_eq_getElem?_getD,List.getElem?_eq_getElem h];rfl
 rw [e]
 rfl
theorem h_y{A A1 B B1 x y:Nat}(h1:A≠A1)(h2:B≠B1)(h3:A≠B)(h4:A≠B1)(h5:A1≠B)(h6:A1≠B1) :
  ((if x=B1 then A1 else if x=B then A else x)=(if y=B1 then A1 else if y=B then A else y))↔((if x=A then B else if x=A1 then B1 else x)=(if y=A then B else if y=A1 then B1 else y)):=by
 constructor
 ·intro h
  repeat' split at h
  all_goals (repeat' split)
  all_goals lia
 ·intro h
  repeat' split at h
  all_goals (repeat' split)
  all_goals lia
theorem Lb.jl{n:Nat}{L Ls:List Nat}{R:Nat->Nat}(u:Uf n L R)(h:Lb n Ls R){one other:Nat}(h1:one<2*n)(h2:other<2*n)(hne:R one≠R other^^^1) :
  (R one=R other->Lb n (jl Ls one other) R)/\(R one≠R other->Lb n (jl Ls one other) (jn R (min (R one) (R other)) (max (R one) (R other)))):=by
 have d1:=x_v one
 have d2:=x_v other
 have c1:=u.cx (e:=one) (by lia)
 have c2:=u.cx (e:=other) (by lia)
 have l1:one^^^1<2*n:=by lia
 have l2:other^^^1<2*n:=by lia
 have key:∀ a,a<2*n->∃ k,k<2*n/\(L2.jl Ls one other).getD a 0=Ls.getD k 0/\R k=if R a=R other^^^1 then R one^^^1 else if R a=R other then R one else R a:=fun a ha=>by
  rw [jl_get (by rw [h.1];exact ha)]
  by_cases q1:R a=R other^^^1
  ·rw [if_pos ((h.2 _ _ ha l2).mpr (by rw [c2];exact q1)),if_pos q1]
   exact ⟨_,l1,rfl,c1⟩
  ·rw [if_neg (fun q=>q1 (by rw [<-c2];exact (h.2 _ _ ha l2).mp q)),if_neg q1]
   by_cases q2:R a=R other
   ·rw [if_pos ((h.2 _ _ ha h2).mpr q2),if_pos q2]
    exact ⟨_,h1,rfl,rfl⟩
   ·rw [if_neg (fun q=>q2 ((h.2 _ _ ha h2).mp q)),if_neg q2]
    exact ⟨_,ha,rfl,rfl⟩
 have hlen:(L2.jl Ls one other).length=2*n:=by unfold L2.jl;rw [List.length_map];exact h.1
 refine ⟨fun hs=>⟨hlen,fun a b ha hb=>?_⟩,fun hs=>⟨hlen,fun a b ha hb=>?_⟩⟩
 ·obtain ⟨ka,la,ea,ra⟩:=key a ha
  obtain ⟨kb,lb,eb,rb⟩:=key b hb
  rw [ea,eb,h.2 _ _ la lb,ra,rb,hs]
  have:∀ z:Nat,(if z=R other^^^1 then R other^^^1 else if z=R other then R other else z)=z:=fun z=>by split<;>(try split)<;>lia
  rw [this,this]
 ·obtain ⟨ka,la,ea,ra⟩:=key a ha
  obtain ⟨kb,lb,eb,rb⟩:=key b hb
  rw [ea,eb,h.2 _ _ la lb,ra,rb]
  have x1:=j_l (R one)
  have x2:=j_l (R other)
  have x3:R one^^^1≠R other:=fun q=>hne (by rw [<-q,j_k])
  have x4:R one^^^1≠R other^^^1:=fun q=>hs (by have:=congrArg (· ^^^ 1) q;simp only [j_k] at this;exact this)
  unfold jn
  rcases Nat.lt_or_gt_of_ne hs with q | q
  ·rw [Nat.min_eq_left (by lia),Nat.max_eq_right (by lia)]
   generalize R one^^^1=A1 at *
   generalize R other^^^1=B1 at *
   have sw:∀ z:Nat,(if z=B1 then A1 else if z=R other then R one else z)=if z=R other then R one else if z=B1 then A1 else z:=fun z=>by split<;>split<;>(try split)<;>lia
   rw [sw,sw]
  ·rw [Nat.min_eq_right (by lia),Nat.max_eq_left (by lia)]
   exact h_y (fun e=>x1 e.symm) (fun e=>x2 e.symm) hs hne x3 x4
theorem Lb.none{n:Nat}{L Ls:List Nat}{R:Nat->Nat}(u:Uf n L R)(h:Lb n Ls R){one other:Nat}(h1:one<2*n)(h2:other<2*n):Ls.getD one 0=Ls.getD (other^^^1) 0↔R one=R other^^^1:=by
 have d2:=x_v other
 rw [h.2 _ _ h1 (by lia),u.cx (by lia)]
theorem w_o{Ls:List Nat}{k:Nat}(h:k<Ls.length):atI (z_g Ls) (k:Int)=some (.int (Ls.getD k 0:Nat)):=by
 rw [nats_at h,List.getD_eq_getElem?_getD,List.getElem?_eq_getElem h]
 rfl
theorem f_p{Ls:List Nat}{i:Nat}(h:i<Ls.length):Ls.take (i+1)=Ls.take i++[Ls.getD i 0]:=by
 rw [List.take_add_one,List.getElem?_eq_getElem h,List.getD_eq_getElem?_getD,List.getElem?_eq_getElem h]
 rfl
theorem y_g(Ls:List Nat)(k:Nat):z_g (Ls++[k])=z_g Ls++[.int (k:Nat)]:=by unfold z_g;rw [List.map_append];rfl
theorem w_b{Ls:List Nat}{i:Nat}{v:V}(h:(z_g Ls)[i]? = some v):i<Ls.length/\v = .int (Ls.getD i 0:Nat):=by
 unfold z_g at h
 rw [List.getElem?_map] at h
 by_cases q:i<Ls.length
 ·rw [List.getElem?_eq_getElem q] at h
  refine ⟨q,?_⟩
  rw [List.getD_eq_getElem?_getD,List.getElem?_eq_getElem q]
  exact (Option.some.inj h).symm
 ·rw [List.getElem?_eq_none (by lia)] at h
  cases h
theorem o_m{x y:Nat}(h:x≠y):¬((Sum.inl (x:Int):Key) = .inl (y:Int)):=fun e=>by
 injection e with e
 have e':(x:Int)=(y:Int):=e
 lia
theorem f_t{a b:Nat}{va vb:V}(x:Nat):valV (mergeK [] [((.inl (a:Int):Key),va),(.inl (b:Int),vb)]) (.inl (x:Int))=if x=b then some vb else if x=a then some va else none:=by
 have e:mergeK [] [((.inl (a:Int):Key),va),(.inl (b:Int),vb)]=putK (putK [] (.inl (a:Int)) va) (.inl (b:Int)) vb:=rfl
 rw [e,s_a,s_a]
 by_cases h1:x=b
 ·subst h1;rw [if_pos rfl,if_pos rfl]
 ·rw [if_neg (o_m h1),if_neg h1]
  by_cases h2:x=a
  ·subst h2;rw [if_pos rfl,if_pos rfl]
  ·rw [if_neg (o_m h2),if_neg h2]
   rfl
structure LamAt(mg:Str->Option Value)(base:Heap)(c P:Addr):Prop where
 hd:PySem.W.CodeHd base c P
 bm:∃ bm ob,mg "__builtins__" = some (.ref bm)/\bm≠builtinsNs/\base.get? bm=some ob/\ob.cls = .type "module" /\ ob.dict=some builtinsNs/\ob.data = .plain
section
variable {X:Cx} {pins:List (Addr×Obj)} {σ:St} {H:Hp} {s:Shared}
theorem Inv.grown{Pa c:Addr}{pos:Pos}{qual:Str}{h':Heap}{t':Nat}{ps vs:Array Value}{oc:Obj}{tq:Tok}(I:Inv X pins σ H s)(hP:H Pa=some (.tbl pos qual))(hx:Heap.ExtBut Pa s.heap h')
  (hge:s.heap.objs.size<=c) (hc:h'.get? c=some oc) (hd:oc.data = .fields vs) (hv:vs[1]? = some (.str qual tq)) (htab:h'.get? Pa=some { cls:=.none,data:=.fields ps }) (ht:TriplesOk ps.toList)
  (ha:codeAmong pos ps.toList=some (.ref c)):Inv X pins σ (upd H c (.frz oc (.own Pa))) { s with heap:=h',toks:=t' }:=by
 have hn:H c=none:=I.hok.fresh hge
 have nP:∀ b,H b=none->b≠Pa:=fun b n z=>by rw [z,hP] at n;cases n
 refine I.un ⟨fun b o e n _ _=>hx b o (nP b n) e,fun b o e n _ _=>⟨o.slots,hx b o (nP b n) e⟩,fun b o e n _=>?_,fun b o e _=>?_,fun b xs e=>?_,fun b o u e=>?_,fun b p q e=>?_⟩ fun b u e=>?_
 ·rw [z_r (Nat.ne_of_lt (Nat.lt_of_lt_of_le (Heap.lt_size e) hge))]
  exact n
 ·by_cases hb:b=Pa
  ·subst hb
   exact ⟨_,htab⟩
  ·exact ⟨o,hx b o hb e⟩
 ·rw [z_r (z_i e hn)]
  exact e
 ·rw [z_r (z_i e hn)]
  exact e
 ·rw [z_r (z_i e hn)]
  exact e
 ·by_cases hbc:b=c
  ·subst hbc
   rw [z_d] at e
   cases e
   exact ⟨hc,oc,hc⟩
  ·rw [z_r hbc] at e
   by_cases hb:b=Pa
   ·subst hb
    rw [hP] at e
    cases e
    exact ⟨ps,htab,ht,.inr ⟨c,oc,vs,tq,ha,z_d,hd,hv⟩⟩
   ·refine (I.hok b u e).stay (fun d v hd q=>hx d v ?_ q) (fun d q=>by rw [z_r (z_i q hn)];exact q) (fun d xs q=>by rw [z_r (z_i q hn)];exact q) fun d ob xs q=>by rw [z_r (z_i q hn)];exact q
    rcases hd with z | z
    ·rw [z]
     exact hb
    ·intro y
     rw [y,hP] at z
     cases z
end
end L2
namespace L2
open PySem PySem.Spec PyProof.Rows
theorem Fun.okC{P:Program}{w:World}{K:PySem.W.Frag}{mg:Str->Option Value}{base:Heap}{x qual:Str}{st:Stmt}{f:Addr}{fd:FuncData}{N ps:List Str}{k:Nat}{sp:Sp}{cdv:Value}(F:Fun K x qual st f fd)(hc:fd.code=cdv)(S:FnScope N ps (z_p st))(len:∀ vs H Q E,sp vs H Q E->vs.length=ps.length)
  (hbody:∀ (A:Around) (outer:List Env) (s:Shared) (H:Hp) (vs:List V) (Q:VK) (E:XK),Room k (A.deeper (envOfC qual (z_p st) s.heap.objs.size f cdv))->sp vs H Q E ->
   ∃ t,PSs (cxOf CX0 P w K mg base N qual (z_p st) f cdv A outer s H E).nox (w_k st) t/\t { nx:=fun _ H'=>Q .non H',rt:=Q } (start N vs) H):FnOk P w K mg base CX0 (k+1) f fd ps sp:=by
 obtain ⟨oc,od,kV,doc,pm,an,cdv',ct,osl,rfl,lk,hcd⟩:=F.ex
 obtain rfl:cdv'=cdv:=hc
 refine fn_of lk hcd S len fun A outer s H vs Q E hr hsp=>?_
 obtain ⟨t,h,q⟩:=hbody A outer s H vs Q E hr hsp
 exact ⟨t,h.nox,q⟩
abbrev Tab4:=Addr×Addr×Pos×Str
def IsTab(h:Heap)(b:Addr):Prop:=(∃ c,PySem.W.CodeHd h c b)/\h.get? b=some (tabObj #[])
def tabH(tabs:List Tab4):Hp:=fun b=>(tabs.find? fun t=>t.2.1 == b).map fun t=>.tbl t.2.2.1 t.2.2.2
theorem l_q:∀ {tabs:List Tab4},(tabs.map (·.2.1)).Nodup->∀ t∈tabs,tabH tabs t.2.1=some (.tbl t.2.2.1 t.2.2.2)
 | [],_,t,h=>nomatch h
 | u::r,nd,t,h=>by
  rw [List.map_cons,List.nodup_cons] at nd
  unfold tabH
  rw [List.find?_cons]
  rcases List.mem_cons.mp h with rfl | h
  ·simp
  ·have:(u.2.1 == t.2.1)=false:=by
    simp only [beq_eq_false_iff_ne,ne_eq]
    intro z
    exact nd.1 (z▸List.mem_map_of_mem (f:=fun t:Tab4=>t.2.1) h)
   rw [this]
   exact l_q nd.2 t h
theorem tabH_of{tabs:List Tab4}{b:Addr}{u:HO}(h:tabH tabs b=some u):∃ t∈tabs,t.2.1=b/\u = .tbl t.2.2.1 t.2.2.2:=by
 unfold tabH at h
 obtain ⟨t,h1,h2⟩:=Option.map_eq_some_iff.mp h
 exact ⟨t,List.mem_of_find?_eq_some h1,eq_of_beq (List.find?_some (p:=fun t:Tab4=>t.2.1 == b) h1),h2.symm⟩
theorem h_t{P:Program}{w:World}{K:PySem.W.Frag}{mg mb:Str->Option Value}{CX:CXT}{k:Nat}{fa a:Addr}{fd:FuncData}{x:Str}{sp:Sp}{s₁:Shared}{vs:List Value}{ns:List Int}{tabs:List Tab4}
  (KX:K.In s₁.heap) (hns:s₁.heap.Ns mainGlobals mg) (hb:s₁.heap.Ns builtinsNs mb) (hbb:∀ x:Str,x ≠ "__name__" -> mb x=bootBuiltins x) (hlim:s₁.heap.NoLimit) (hg:s₁.gens = #[])
  (ha:s₁.heap.get? a=some { cls:=.type "list",data:=.seq vs.toArray }) (hi:IntsAre vs ns) (hl:ns.length<=sizeLine) (hr:Room k callerA)
  (hT:∀ t∈tabs,PySem.W.CodeHd s₁.heap t.1 t.2.1/\s₁.heap.get? t.2.1=some (tabObj #[])) (hNd:(tabs.map (·.2.1)).Nodup) (hNo:noTabs K=true)
  (hbm:∃ bm ob,mg "__builtins__" = some (.ref bm)/\bm≠builtinsNs/\s₁.heap.get? bm=some ob/\ob.cls = .type "module" /\ ob.dict=some builtinsNs/\ob.data = .plain)
  (F:∀ base:Heap,K.In base->base.Ns mainGlobals mg->(∀ t∈tabs,LamAt mg base t.1 t.2.1)->FnOk P w K mg base CX k fa fd [x] sp) (hbind:∀ (s:Shared) (u:Value),BindsTo s fd ⟨[u],[]⟩ [(x,u)])
  (hsp:∀ H:Hp,(∀ t∈tabs,H t.2.1=some (.tbl t.2.2.1 t.2.2.2))->SqL K H a (ns.map V.int)->sp [.ref a] H (fun v _=>v = .bl true) fun _ _ _=>False)
  (hCX:∀ H e s',CX [] H s₁ (fun _ _ _=>False) e s'->False) :
  codeAny (model P w) callerA (.call (.ref fa) ⟨[.ref a],[]⟩) (fun r s'=>r = .ok (.ret (.bool true))/\OldK s₁.heap s'.heap/\s'.os=s₁.os/\AllBare s'.gens) s₁:=by
 have rv:=q_d hi
 have lenV:=hi.length
 have core:∀ H:Hp,(∀ b u,H b=some u->(b=a/\K.lookup a=none/\∃ o xs,u = .frz o (.lst xs))\/(IsTab s₁.heap b/\∃ p q,u = .tbl p q))->(∀ t∈tabs,H t.2.1=some (.tbl t.2.2.1 t.2.2.2))->SqL K H a (ns.map V.int)->HOk P w H s₁.heap ->
   codeAny (model P w) callerA (.call (.ref fa) ⟨[.ref a],[]⟩) (fun r s'=>r = .ok (.ret (.bool true))/\OldK s₁.heap s'.heap/\s'.os=s₁.os/\AllBare s'.gens) s₁:=by
  intro H hO hTb hS hok
  have base_of:∀ {b:Addr} {o:Obj},s₁.heap.get? b=some o->H b=none->(hidT s₁.heap H).get? b=some o:=fun e n=>q_v e n
  have noO:∀ {b:Addr} {o:Obj},s₁.heap.get? b=some o->(∀ xs n,o.data ≠ .seq xs n)->o≠tabObj #[]->H b=none:=fun {b o} e d1 d2=>by
   cases q:H b with
   | none=>rfl
   | some u =>
    rcases hO b u q with ⟨rfl,_⟩ | ⟨⟨_,z⟩,_⟩
    ·rw [ha] at e
     cases e
     exact absurd rfl (d1 _ _)
    ·rw [z] at e
     cases e
     exact absurd rfl d2
  have nsK:∀ {b:Addr} {m:Str->Option Value},s₁.heap.Ns b m->(hidT s₁.heap H).Ns b m:=fun {b m} ⟨o,es,ep,e,d,r⟩=>⟨o,es,ep,base_of e (noO e (fun _ _ z=>by rw [d] at z;cases z) (fun z=>by rw [z] at d;cases d)),d,r⟩
  have hKb:K.In (hidT s₁.heap H):=fun b o e=>base_of (KX b o e) (by
   cases q:H b with
   | none=>rfl
   | some u =>
    rcases hO b u q with ⟨rfl,z,_⟩ | ⟨⟨_,z⟩,_⟩
    ·rw [z] at e
     cases e
    ·have e2:=KX b o e
     rw [z] at e2
     cases e2
     exact absurd (show false=true from List.all_eq_true.mp hNo (b,_) (PySem.W.mem_of_lookupK e)) Bool.false_ne_true)
  have hM:Mod K mg (hidT s₁.heap H):=⟨hKb,nsK hns,⟨mb,nsK hb,hbb⟩,let ⟨mc,h1,h2⟩:=hlim;⟨mc,nsK h1,h2⟩⟩
  have e0:Env0 P w K mg (hidT s₁.heap H) callerA [] s₁ H:=⟨rfl,rfl,hM,fun b o e=>m_u e,Nat.le_of_eq (o_l _ _),trivial,fun b hb=>absurd (show b∈([]:List Addr) from hb) (by simp),hok,.of_eq hg⟩
  have hLam:∀ t∈tabs,LamAt mg (hidT s₁.heap H) t.1 t.2.1:=fun t ht=>by
   obtain ⟨o,vs,file,tf,flags,tg,inF,text,tt,e1,r1,r2,rest⟩:=(hT t ht).1
   obtain ⟨bm,ob,b1,b2,b3,b4,b5,b6⟩:=hbm
   exact ⟨⟨o,vs,file,tf,flags,tg,inF,text,tt,base_of e1 (noO e1 (fun _ _ z=>by rw [r2] at z;cases z) (fun z=>by rw [z] at r1;cases r1)),r1,r2,rest⟩,bm,ob,b1,b2,base_of b3 (noO b3 (fun _ _ z=>by rw [b6] at z;cases z) (fun z=>by rw [z] at b4;cases b4)),b4,b5,b6⟩
  refine codeAny_mono ((F _ hKb (nsK hns) hLam).run callerA [] s₁ H ⟨[.ref a],[]⟩ [.ref a] [.ref a] _ _ hr e0 (hbind s₁ (.ref a)) (.cons rfl .nil) (hsp H hTb hS)) fun r s' h=>?_
  cases r with
  | error e=>exact (hCX H e s' h).elim
  | ok fl =>
   cases fl with
   | next=>exact False.elim h
   | brk=>exact False.elim h
   | cont=>exact False.elim h
   | ret u =>
    obtain ⟨v,H',os,bare,un,hok',r',q⟩:=h
    have q':v = .bl true:=q
    subst q'
    obtain rfl:u=Value.bool true:=r'
    refine ⟨rfl,⟨fun b o e=>?_,fun b o e=>un.there b o e (by simp)⟩,os,bare⟩
    cases q:H b with
    | none=>exact .inl (un.keep b o e q (by intro z;exact absurd (show b∈([]:List Addr) from z) (by simp)) (by simp))
    | some u =>
     rcases hO b u q with ⟨_,_,ob,xs,rfl⟩ | ⟨⟨⟨c,hc⟩,z⟩,p,q2,rfl⟩
     ·have z2:=un.frzs b ob _ q
      obtain ⟨e1,_⟩:=hok b _ q
      obtain ⟨e2,_⟩:=hok' b _ z2
      rw [e] at e1
      cases e1
      exact .inl e2
     ·obtain ⟨ps,e2,_⟩:=hok' b _ (un.tbls b p q2 q)
      have e1:=z
      rw [e] at z
      cases z
      exact .inr (.inl ⟨(hc.tab e1).isCodeTable,rfl,#[],ps,rfl,by rw [e2];simp⟩)
 have tabOk:∀ b u,tabH tabs b=some u->IsTab s₁.heap b/\∃ p q,u = .tbl p q:=fun b u e=>by
  obtain ⟨t,ht,rfl,rfl⟩:=tabH_of e
  exact ⟨⟨⟨_,(hT t ht).1⟩,(hT t ht).2⟩,_,_,rfl⟩
 have tabHok:∀ {H:Hp} {b:Addr} {u:HO},tabH tabs b=some u->ObjOk P w H s₁.heap b u:=fun {H b u} e=>by
  obtain ⟨⟨_,z⟩,p,q,rfl⟩:=tabOk b u e
  exact ⟨#[],z,trivial,.inl rfl⟩
 cases hk:K.lookup a with
 | some o =>
  have e:=KX a o hk
  rw [ha] at e
  cases e
  exact core (tabH tabs) (fun b u e=>.inr (tabOk b u e)) (l_q hNd) (.inr ⟨_,vs.toArray,_,hk,rfl,rfl,rfl,by rw [List.size_toArray,lenV];exact hl,by simpa using rv⟩) (fun b u e=>tabHok e)
 | none =>
  have nt:∀ t∈tabs,t.2.1≠a:=fun t ht z=>by
   have:=(hT t ht).2
   rw [z,ha] at this
   cases this
  refine core (fun b=>if b=a then some (.frz { cls:=.type "list",data:=.seq vs.toArray } (.lst (ns.map V.int))) else tabH tabs b) (fun b u e=>?_) (fun t ht=>(if_neg (nt t ht)).trans (l_q hNd t ht)) (.inl (.inr ⟨{ cls:=.type "list",data:=.seq vs.toArray },if_pos rfl⟩)) (fun b u e=>?_)
  ·by_cases hb:b=a
   ·have e':=(if_pos hb).symm.trans e
    cases e'
    exact .inl ⟨hb,hk,_,_,rfl⟩
   ·exact .inr (tabOk b u ((if_neg hb).symm.trans e))
  ·by_cases hb:b=a
   ·have e':=(if_pos hb).symm.trans e
    cases e'
    subst hb
    exact ⟨ha,by rw [List.length_map];exact hl,vs,_,rv,ha⟩
   ·exact tabHok ((if_neg hb).symm.trans e)
theorem walk_ofT{l:PySem.W.OpenLaw}{n k:Nat}{q:Program}{loose:List Str}{XP:(Str->Option Value)->Heap->Prop}{YP:World->Heap->Prop}{d:DefRec}{K:Params->PySem.W.Frag}{x:Str}
  (hn:l.most=some n) (hn2:n<=sizeLine) (hdf:d.params.defaults=[]) (hr:Room k callerA)
  (hY:∀ (w:World) (h:Heap),YP w h->(K w.params).In h)
  (F:∀ (w:World) (mg mb:Str->Option Value) (ls:List Str) (mean:ExcName->Option Value) (fa:Addr) (h:Heap),(K w.params).In h->h.Ns mainGlobals mg->Top q ls mean mg mb h->mg d.name=some (.ref fa) ->
   ∃ (fd:FuncData) (tabs:List Tab4) (sp:Sp),(∀ (s:Shared) (u:Value),BindsTo s fd ⟨[u],[]⟩ [(x,u)])/\(∀ t∈tabs,PySem.W.CodeHd h t.1 t.2.1/\h.get? t.2.1=some (tabObj #[]))/\(tabs.map (·.2.1)).Nodup/\noTabs (K w.params)=true /\
    (∀ base:Heap,(K w.params).In base->base.Ns mainGlobals mg->(∀ t∈tabs,LamAt mg base t.1 t.2.1)->FnOk l.prog w (K w.params) mg base CX0 k fa fd [x] sp) /\
    ∀ (H:Hp) (a:Addr) (ns:List Int),ns.length<=n->(∀ t∈tabs,H t.2.1=some (.tbl t.2.2.1 t.2.2.2))->SqL (K w.params) H a (ns.map V.int)->sp [.ref a] H (fun v _=>v = .bl true) fun _ _ _=>False) :
  PySem.W.WalkO q loose XP YP l.row.toRowW d [] (fun f vs=>PySem.call f vs):=by
 refine Att.attach_call hn hdf fun w s₀ s₁ mg mb fa o pm cd doc a vs ns G Y ho hd hcd hmg hobj hints hlen hg=>?_
 have KX:=hY w _ Y
 obtain ⟨fd,tabs,sp,hb,hT,hNd,hNo,hF,hsp⟩:=F w mg mb _ _ fa _ KX G.T.g G.T hmg
 exact h_t KX G.T.g G.T.b G.T.builtins G.T.nolimit hg hobj hints (Nat.le_trans hlen hn2) hr hT hNd hNo G.T.bmain hF hb (fun H h1 h2=>hsp H a ns hlen h1 h2) fun _ _ _ z=>z
section
variable {X:Cx} {pins:List (Addr×Obj)} {σ:St} {H:Hp} {s:Shared}
def IsClo(fo:Obj)(name qual:Str)(params:Arguments)(body:List Stmt)(scope:Scope)(clos:List (Str×Addr))(c:Addr):Prop :=
 ∃ doc pm ctv,fo={ cls:=.type "function",data:=.func (fnX name qual params body scope clos .none .none doc pm none (.ref c) ctv) }
def IsCd(H:Hp)(c:Addr)(qual:Str):Prop:=∃ oc u vs tq,H c=some (.frz oc u)/\oc.data = .fields vs/\vs[1]? = some (.str qual tq)
theorem IsCd.same{H H':Hp}{c:Addr}{qual:Str}(x:IsCd H c qual)(u:Same H H'):IsCd H' c qual:=by
 obtain ⟨oc,w,vs,tq,a,b⟩:=x
 exact ⟨oc,w,vs,tq,u _ _ a,b⟩
theorem clo_make{A:Around}{E:Value->Shared->Prop}{Q:Value->Shared->Prop}{Pa c:Addr}{pos:Pos}{fl:Nat}{name qual:Str}{params:Arguments}{body:List Stmt}{scope:Scope}{clos:List (Str×Addr)}(I:Inv X pins σ H s)
  (L:LamAt X.mg X.base c Pa) (hcode:X.env.code = .ref c) (hP:H Pa=some (.tbl pos qual)) (hcl:closureFor scope X.env=pure clos)
  (h:∀ (f c':Addr) (fo:Obj) (H':Hp) (s':Shared),Inv X pins σ H' s'->Same H H'->H f=none->H' f=some (.frz fo (.own f))->IsClo fo name qual params body scope clos c'->IsCd H' c' qual->Q (.ref f) s') :
  wpAny (model X.prog X.w) A (makeFunction name qual params (FuncBody.stmts body) scope X.env [] [] [] pos fl) Q E s:=by
 obtain ⟨ps,hPs,ht,hc⟩:=I.hok Pa _ hP
 obtain ⟨bm,ob,b1,b2,b3,b4,b5,b6⟩:=L.bm
 have nP:∀ b o,X.base.get? b=some o->b≠Pa:=fun b o e z=>by
  have:=(I.bs b o e).2
  rw [z,hP] at this
  cases this
 have hg:=I.mod.glob.keeps I.bk
 have hgP:mainGlobals≠Pa:=by
  obtain ⟨o,_,_,e,_⟩:=I.mod.glob
  exact nP _ o e
 have hbG:bm≠mainGlobals:=fun q=>by
  obtain ⟨o,es,ep,e,hd,_⟩:=I.mod.glob
  rw [q,e] at b3
  cases b3
  rw [hd] at b6
  cases b6
 have hb:s.heap.BuiltinsAt X.mg Pa:=⟨bm,ob,b1,b2,hbG,nP _ _ b3,I.bk _ _ b3,b4,b5,b6⟩
 have push:∀ {H1:Hp} {h':Heap} {tk:Nat} {fo:Obj},Inv X pins σ H1 { s with heap:=h',toks:=tk }->Same H H1->fo.isFreed=false->∀ {c':Addr},s.heap.objs.size<=h'.objs.size->IsClo fo name qual params body scope clos c'->IsCd H1 c' qual->Q (.ref h'.objs.size) { s with heap:=h'.push fo,toks:=tk }:=fun {H1 h' tk fo} I1 sm hnf {c'} hsz hcl hcd=>by
  have hfr:H1 h'.objs.size=none:=I1.hok.fresh (Nat.le_refl _)
  have hget:(h'.push fo).get? h'.objs.size=some fo:=Heap.get?_push_size _ hnf
  have I2:=I1.laid (t':=tk) (a:=h'.objs.size) (o:=.frz fo (.own h'.objs.size)) (h':=h'.push fo) (fun b u e=>Heap.get?_push_of_some _ e) (Nat.le_refl _) ⟨hget,_,hget⟩
  have sm2:Same H1 (upd H1 h'.objs.size (.frz fo (.own h'.objs.size))):=fun b u q=>by rw [z_r (z_i q hfr)];exact q
  exact h h'.objs.size c' fo _ _ I2 (sm.trans sm2) (I.hok.fresh hsz) z_d hcl (hcd.same sm2)
 rcases hc with hnf | ⟨c',oc,vs,tq,hf,hown,hd,hv⟩
 ·refine PySem.W.makeFunction_K hcl I.ok.glob hg hcode (L.hd.keeps I.bk) hPs ht hnf hgP hb fun c' ctv doc h' tk hx hge hlt hrec htb=>?_
  obtain ⟨c2,oc,vs,tq,z,h1,h2,h3⟩:=hrec
  cases z
  have I1:=I.grown (t':=tk) hP hx hge h1 h2 h3 htb (by rw [Array.toList_append];exact TriplesOk_snoc _ _ _ _ ht) (by rw [Array.toList_append];exact codeAmong_snoc _ ht hnf)
  exact push I1 (fun b u q=>by rw [z_r (z_i q (I.hok.fresh hge))];exact q) rfl (Nat.le_trans hge (Nat.le_of_lt hlt)) ⟨_,_,_,rfl⟩ ⟨oc,_,vs,tq,z_d,h2,h3⟩
 ·refine PySem.W.makeFunction_hit hcl I.ok.glob hg hcode (L.hd.keeps I.bk) hPs ht hf hb fun ctv doc h' tk hk hsz=>?_
  exact push (I.kept (t':=tk) hk) (Same.refl H) rfl hsz ⟨_,_,_,rfl⟩ ⟨oc,_,vs,tq,hown,hd,hv⟩
def tDefC(Pa:Addr)(pos:Pos)(name qual:Str)(params:Arguments)(body:List Stmt)(scope:Scope)(clos:List (Str×Addr))(j:Nat):TS:=fun D σ H=>H Pa=some (.tbl pos qual) /\
 ∀ (f c':Addr) (fo:Obj) (H':Hp),Same H H'->H f=none->H' f=some (.frz fo (.own f))->IsClo fo name qual params body scope clos c'->IsCd H' c' qual->D.nx (σ.set j (some (.ref f))) H'
theorem ps_defC{Pa c:Addr}{pos:Pos}{name qual:Str}{params:Arguments}{body:List Stmt}{scope:Scope}{clos:List (Str×Addr)}{j:Nat}(L:LamAt X.mg X.base c Pa)(hcode:X.env.code = .ref c)(hq:qualnameIn X.env name name=qual)(hcl:closureFor scope X.env=pure clos)
  (hdef:defaultsOf params X.env=([],[])) (hann:annotationsOf (params.args++params.posonlyargs++params.vararg.toList++params.kwonlyargs++params.kwarg.toList) X.env=[])
  (hN:X.N.Nodup) (hj:X.N[j]? = some name) (hx:Loc X.env.scope name) (hf:X.fn name=true\/X.env.scope.names.lookup name=some .local:=by first | exact .inl rfl | exact .inr rfl | assumption) :
  PS X (.FunctionDef name params body [] none [] scope none name pos) (tDefC Pa pos name qual params body scope clos j):=by
 intro pins s σ H D I h
 obtain ⟨hP,h⟩:=h
 rw [arm_exec_FunctionDef]
 unfold defStmt
 rw [hdef]
 show wpAny _ _ (evalAll [] >>= _) _ _ s
 refine wpAny_bind (wpAny_pure (wpAny_bind (wpAny_standAt (wpAny_bind ?_))))
 show wpAny _ _ (evalAll [] >>= _) _ _ s
 refine wpAny_bind (wpAny_pure ?_)
 show wpAny _ _ (evalAllOpt [] >>= _) _ _ s
 refine wpAny_bind (wpAny_pure ?_)
 refine wpAny_holding ?_
 show wpAny _ _ (evalNamed _ >>= fun ann=>makeFunction name (qualnameIn X.env name name) params (FuncBody.stmts body) scope X.env [] [] ann pos pos.line) _ _ s
 have e1:evalOpt none X.env=none:=by first | rfl | (unfold evalOpt;rfl) | simp [evalOpt]
 dsimp only
 rw [e1,hq]
 have e3:∀ l:List (Str×Sem Value),l=[]->wpAny (model X.prog X.w) X.A (evalNamed (l++(Option.map (fun x=>(Str.ofString "return",x)) (none:Option (Sem Value))).toList) >>= fun ann=>makeFunction name qual params (FuncBody.stmts body) scope X.env [] [] ann pos pos.line) (fun a s'=>wpAny (model X.prog X.w) X.A (decorate ([].zip (List.map (fun x=>x.pos) ([]:List Expr))).reverse a >>= fun f=>standAt pos >>= fun _=>bindName X.env name f >>= fun _=>pure Flow.next) (SP X pins D) X.xe s') X.xe s:=by
  rintro l rfl
  refine wpAny_bind (wpAny_pure (clo_make I L hcode hP hcl fun f c' fo H' s' I' sm hn hf' hc hcd=>?_))
  refine wpAny_bind (wpAny_pure (wpAny_bind (wpAny_standAt (wpAny_bind (wpAny_bindName (p_u I' hN hj hx (v:=.ref f) rfl (fun s2 I2=>wpAny_pure ?_) hf))))))
  exact ⟨_,_,I2,h f c' fo H' sm hn hf' hc hcd⟩
 refine e3 _ ?_
 cases params
 exact hann
def tCallV(P:Program)(w:World)(K:PySem.W.Frag)(mg:Str->Option Value)(base:Heap)(A:Around)(i:Nat)(t:TA):TE:=fun σ H Q=>∃ f,σ[i]? = some (some (.ref f))/\∃ fo:Obj,(K.lookup f=some fo\/∃ u,H f=some (.frz fo u))/\(∃ fd,fo.data = .func fd) /\
 t σ H fun vs H1=>(K.lookup f=some fo\/∃ u,H1 f=some (.frz fo u))/\∃ k fd ps sp,FnOk P w K mg base CX0 k f fd ps sp/\Room k A/\Binds K fd ps []/\sp vs H1 Q E0
theorem k_i{i:Nat}{x:Str}{p pos:Pos}{e:Expr}{es:List Expr}{t:TA}(hN:X.N[i]? = some x)(hv:Vis X.env.scope x)(ha:PA X (e::es) t)(hd:(x == ("__debug__" : Str))=false:=by decide)(hcd:(x == ("__classdict__" : Str))=false:=by decide)
  (he:starEach (e::es) X.env=(false,eval e X.env)::starEach es X.env:=by rfl) (hpl:(backTo pos (starEach es X.env)).any (·.1)=false:=by rfl):PE X (.Call (.Name x p) (e::es) [] pos) (tCallV X.prog X.w X.K X.mg X.base X.A i t):=by
 intro pins s σ H Q I h
 obtain ⟨f,hσ,fo,h0,⟨fd0,hfd⟩,h⟩:=h
 have at_:∀ {H:Hp} {s:Shared},Inv X pins σ H s->(X.K.lookup f=some fo\/∃ u,H f=some (.frz fo u))->(PySem.W.Frag.In [(f,fo)] s.heap):=fun {H s} I h0=>by
  have hg:s.heap.get? f=some fo:=by
   rcases h0 with h0 | ⟨u,h0⟩
   ·exact I.kIn _ _ h0
   ·exact (I.hok f _ h0).1
  intro a o e
  rw [List.lookup_cons] at e
  cases c:(a == f) with
  | true =>
   rw [c] at e
   cases e
   rw [eq_of_beq c]
   exact hg
  | false=>rw [c] at e;cases e
 have hkeep:keepIn [(f,fo)] (.ref f)=true:=by
  obtain ⟨oc,od,dt,sl⟩:=fo
  have hfd':dt = .func fd0:=hfd
  subst hfd'
  unfold keepIn
  simp
 refine wpAny_Call_Name_kw (thn (pe_var hN hv hd hcd pins s σ H (fun v H'=>v = .ref f/\H'=H) I ⟨_,hσ,rfl,rfl⟩) fun u s1 ⟨v,H',I1,r,hv',hH⟩=>?_)
 subst hv' hH
 cases r
 refine callWith_K (K:=[(f,fo)]) (h₀:=s1.heap) (at_ I1 h0) hkeep (thn (ha pos pins s1 σ _ _ I1 h) fun us s2 ⟨vs,H1,I2,r,q⟩=>?_) he hpl
 obtain ⟨h2,k,fd,ps,sp,F,hr,hb,q⟩:=q
 exact ⟨at_ I2 h2,g_z (dvs:=[]) (ds:=[]) F hr hb .nil pass0 I2 r (by rw [List.append_nil];exact q)⟩
end
def cloCx(P:Program)(w:World)(K:PySem.W.Frag)(mg:Str->Option Value)(base:Heap)(N:List Str)(qual:Str)(scope:Scope)(f:Addr)(cd:Value)(clos:List (Str×Addr))(A:Around)(outer:List Env)(s:Shared)(H:Hp):Cx where
 prog:=P
 w:=w
 K:=K
 mg:=mg
 base:=base
 A:=A.deeper (envX qual scope s.heap.objs.size f cd clos)
 N:=N
 s₀:=s
 H₀:=H
 env:=envX qual scope s.heap.objs.size f cd clos
 outer:=outer
 stack:=envX qual scope s.heap.objs.size f cd clos::outer
 ex:=[]
 calm:=true
 fn:=fun _=>false
 pn:=[]
 xe:=fun _ _=>False
def sp_clo(fo:Obj)(f c:Addr)(qual:Str)(y:V)(tb:TS):Sp:=fun vs H Q _=>∃ (v:V) (u:HO),vs=[v]/\H f=some (.frz fo u)/\IsCd H c qual/\tb { nx:=fun _ H'=>Q .non H',rt:=Q } [some y,some v] H
theorem clo_ok{P:Program}{w:World}{K:PySem.W.Frag}{mg:Str->Option Value}{base:Heap}{f c' cf:Addr}{fo oce:Obj}{name qual fr x:Str}{params:Arguments}{body:List Stmt}{scope:Scope}{tb:TS}{y:V}{uy:Value}
  (hce:base.get? cf=some oce) (hcv:oce.data = .cell (some uy)) (ry:RelV y uy) (hclo:IsClo fo name qual params body scope [(fr,cf)] c') (hsc:scope.names=[(x,.local),(fr,.free)]) (hne:(fr == x)=false) (hk:scope.kind = .function)
  (hco:scope.isCoroutine=false) (hgen:scope.isGenerator=false) (hbind:∀ doc pm ctv u,bindArgs (fnX name qual params body scope [(fr,cf)] .none .none doc pm none (.ref c') ctv) ⟨[u],[]⟩=pure [(x,u)])
  (hb:∀ A outer s H,PSs (cloCx P w K mg base [fr,x] qual scope f (.ref c') [(fr,cf)] A outer s H) body tb):∃ fd,FnOk P w K mg base CX0 1 f fd [x] (sp_clo fo f c' qual y tb)/\Binds K fd [x] []/\fo.data = .func fd:=by
 obtain ⟨doc,pm,ctv,rfl⟩:=hclo
 refine ⟨_,⟨?_,?_⟩,.all (fun us hl=>?_),rfl⟩
 ·rintro vs H Q E ⟨v,u,rfl,_⟩
  rfl
 ·intro A outer s H args us vs Q E hr e0 hbt r hsp
  obtain ⟨v,uo,rfl,hf,hcd,hq⟩:=hsp
  have ho:=(e0.hok f _ hf).1
  obtain ⟨oc,u2,ws,tq,c1,c2,c3⟩:=hcd
  have hcr:s.heap.CodeRec (.ref c') qual:=⟨c',oc,ws,tq,rfl,(e0.hok c' _ c1).1,c2,c3⟩
  cases r with
  | @cons _ u _ us ru rr =>
  cases rr
  have hdp:A.depth<recursionLimit:=by have:=hr.dp;lia
  refine codeAny_call_function hdp ho rfl hco hgen rfl hcr (hbt _ _ _ _ ?_)
  refine wpAny_newFunctionEnv (fun p hp=>?_) (fun p hp=>?_) (fun h₁ hns hsb=>?_) hk
  ·rw [show (fnX name qual params body scope [(fr,cf)] .none .none doc pm none (.ref c') ctv).scope=scope from rfl,hsc] at hp
   simp only [List.mem_cons,List.not_mem_nil,or_false] at hp
   rcases hp with rfl | rfl<;>nofun
  ·have hp':p=(x,u):=by simpa using hp
   subst hp'
   show scope.names.lookup x=_
   rw [hsc]
   simp
  have hk₁:∀ b o,s.heap.get? b=some o->h₁.get? b=some o:=fun b o e=>hsb.extBut b o (Nat.ne_of_lt (Heap.lt_size e)) (Heap.get?_push_of_some _ e)
  have lim:s.heap.NoLimit:=e0.mod.nolimit.keeps fun b o e=>(e0.bs b o e).1
  refine ⟨lim.keeps hk₁,codeAny_func ?_⟩
  show wpAny _ (A.deeper (envX qual scope s.heap.objs.size f (.ref c') [(fr,cf)])) (execs body (envX qual scope s.heap.objs.size f (.ref c') [(fr,cf)])) _ _ _
  have lk:∀ z:Str,scope.names.lookup z=some .cell\/scope.names.lookup z=some .free->z=fr:=fun z hz=>by
   rw [hsc] at hz
   simp only [List.lookup_cons,List.lookup_nil] at hz
   cases e1:(z == x) with
   | true=>rw [e1] at hz;simp at hz
   | false =>
    rw [e1] at hz
    cases e2:(z == fr) with
    | true=>exact eq_of_beq e2
    | false=>rw [e2] at hz;simp at hz
  have cl:∀ (z:Str) (c:Addr),([(fr,cf)]:List (Str×Addr)).lookup z=some c->z=fr/\c=cf:=fun z c hz=>by
   simp only [List.lookup_cons,List.lookup_nil] at hz
   cases e2:(z == fr) with
   | true=>rw [e2] at hz;exact ⟨eq_of_beq e2,(Option.some.inj hz).symm⟩
   | false=>rw [e2] at hz;cases hz
  have I1:Inv (cloCx P w K mg base [fr,x] qual scope f (.ref c') [(fr,cf)] A outer s H) [] [some y,some v] H { s with heap:=h₁,toks:=s.toks+([x].zip [u]).length }:=by
   have noA:∀ b:Addr,b∉(cloCx P w K mg base [fr,x] qual scope f (.ref c') [(fr,cf)] A outer s H).ex:=fun b z=>absurd (show b∈([]:List Addr) from z) (by simp)
   refine ⟨⟨e0.mod,hk,rfl,rfl,Nat.le_refl _,fun a b c h1 h2=>?_,fun a ha=>?_,fun a c h=>absurd (show false=true from h) (by simp),fun _=>hr.hd,Around.frames_deeper e0.frames,e0.gd,.inr ⟨rfl,rfl⟩,fun b z=>absurd z (noA b),e0.bs,e0.bsz,fun b _ _=>noA b,fun b z=>absurd z (noA b),e0.funs,e0.frf⟩,
    rfl,e0.bare,Un.kept hk₁,⟨_,hns,fun j z vz h1 h2 h3=>?_⟩,fun a c h=>?_,e0.hok.fresh (Nat.le_refl _),fun a c h=>?_,fun p hp=>absurd (show p∈([]:List (Addr×Obj)) from hp) (by simp),e0.hok.kept hk₁,rfl⟩
   ·exact ((cl a c h1).1).trans ((cl b c h2).1).symm
   ·have:=lk a ha
    subst this
    exact ⟨cf,by show ([(a,cf)]:List (Str×Addr)).lookup a=some cf;simp⟩
   ·rcases j with _ | _ | j
    ·cases h1
     cases h2
     refine ⟨uy,ry,.inr ⟨.inr ?_,cf,by show ([(fr,cf)]:List (Str×Addr)).lookup fr=some cf;simp,?_⟩⟩
     ·show scope.names.lookup fr=some .free
      rw [hsc]
      simp only [List.lookup_cons,List.lookup_nil,hne]
      simp
     ·exact ⟨oce,hk₁ _ _ (e0.bs _ _ hce).1,hcv⟩
    ·cases h1
     cases h2
     refine ⟨u,ru,.inl ⟨?_,by simp⟩⟩
     show scope.names.lookup x=some .local
     rw [hsc]
     simp
    ·cases h1
   ·obtain ⟨rfl,rfl⟩:=cl a c h
    exact ⟨_,oce,hk₁ _ _ (e0.bs _ _ hce).1,hcv⟩
   ·obtain ⟨rfl,rfl⟩:=cl a c h
    exact (e0.bs _ _ hce).2
  refine wpAny_mono (hb A outer s H [] _ _ _ _ I1 hq) (fun fl s' hs=>?_) fun _ _ z=>z.elim
  have fin:∀ {σ':St} {H':Hp} {v:V} {u:Value},Inv (cloCx P w K mg base [fr,x] qual scope f (.ref c') [(fr,cf)] A outer s H) [] σ' H' s'->RelV v u->Q v H'->CE outer P w H s Q u s' :=
   fun {σ' H' v u} J rv q=>⟨v,H',J.os,J.bare,J.base,J.hok,rv,q⟩
  cases fl with
  | ret u =>
   obtain ⟨v,σ',H',J,rv,q⟩:=hs
   exact fin J rv q
  | next =>
   obtain ⟨σ',H',J,q⟩:=hs
   exact fin (v:=V.non) (u:=Value.none) J rfl q
  | brk =>
   obtain ⟨_,_,_,q⟩:=hs
   exact False.elim q
  | cont =>
   obtain ⟨_,_,_,q⟩:=hs
   exact False.elim q
 ·cases us with
  | nil=>cases hl
  | cons u us =>
   cases us with
   | nil=>exact hbind doc pm ctv u
   | cons _ _=>cases hl
theorem l_y{h base base':Heap}:∀ {l:List Env},h.FunFrames base l->(∀ b∈frs l,base'.get? b=none)->h.FunFrames base' l
 | [],_,_=>trivial
 | e::l,hf,hb=>by
  obtain ⟨k,⟨L,o,hf,_,ho,hd⟩,r⟩:=hf
  have hfr:frs (e::l)=L::frs l:=by
   show (e::l).filterMap (fun x=>x.frame)=_
   rw [List.filterMap_cons,hf]
   rfl
  rw [hfr] at hb
  exact ⟨k,⟨L,o,hf,hb L List.mem_cons_self,ho,hd⟩,l_y r fun b hm=>hb b (List.mem_cons_of_mem _ hm)⟩
section
variable {X:Cx}
def tCallW(sp:Heap->Sp)(i:Nat)(cf:Addr)(t:TA):TE:=fun σ H Q=>t σ H fun vs H1=>∃ y,σ[i]? = some (some y)/\∀ (base':Heap) (oce:Obj) (uy:Value),base'.get? cf=some oce->oce.data = .cell (some uy)->RelV y uy->sp base' vs H1 Q E0
theorem pe_callW{sp:Heap->Sp}{i k:Nat}{f cf:Addr}{fd:FuncData}{ps:List Str}{fr x:Str}{p pos:Pos}{e:Expr}{es:List Expr}{t:TA}(F:∀ base':Heap,FnOk X.prog X.w X.K X.mg base' CX0 k f fd ps (sp base'))(hr:Room k X.A)(hg:Gl X x)(hm:X.mg x=some (.ref f))(hk:keepIn X.K (.ref f)=true)(hb:Binds X.K fd ps [])
  (hi:X.N[i]? = some fr) (hvis:X.env.scope.names.lookup fr=some .cell) (hce:X.env.cells.lookup fr=some cf) (ha:PA X (e::es) t) (hfn:X.fn fr=true:=by rfl) (hdb:(x == ("__debug__" : Str))=false:=by decide)
  (he:starEach (e::es) X.env=(false,eval e X.env)::starEach es X.env:=by rfl) (hpl:(backTo pos (starEach es X.env)).any (·.1)=false:=by rfl):PE X (.Call (.Name x p) (e::es) [] pos) (tCallW sp i cf t):=by
 intro pins s σ H Q I h
 refine wpAny_Call_Name_kw (r_f I hg hm ?_ hdb)
 refine callWith_K (h₀:=X.base) I.ok.mod.kin hk (thn (ha pos pins s σ H _ I h) fun us s1 ⟨vs,H1,I1,r,q⟩=>⟨I1.kIn,?_⟩) he hpl
 obtain ⟨y,hσ,q⟩:=q
 obtain ⟨uy,oce,ry,hoce,hcv⟩:∃ uy oce,RelV y uy/\s1.heap.get? cf=some oce/\oce.data = .cell (some uy):=by
  obtain ⟨m,_,hl⟩:=I1.loc
  obtain ⟨uy,ry,lo⟩:=hl i fr y hi hσ (.inr (.inl hvis))
  rcases lo with ⟨l1,_⟩ | ⟨_,c,l2,o,l3,l4⟩
  ·have l1':X.env.scope.names.lookup fr=some .local:=l1
   rw [hvis] at l1'
   cases l1'
  ·rw [hce] at l2
   cases l2
   exact ⟨uy,o,ry,l3,l4⟩
 obtain ⟨Hh,hH⟩:∃ Hh:Hp,∀ b,Hh b=none↔(X.base.get? b≠none\/b=cf):=by
  refine ⟨fun b=>if (X.base.get? b).isSome || b == cf then none else some (.lst []),fun b=>?_⟩
  cases e1:X.base.get? b with
  | some o=>simp [e1]
  | none =>
   by_cases e2:b=cf
   ·subst e2;simp
   ·simp [e1,e2]
 have bk':∀ b o,X.base.get? b=some o->(hidT s1.heap Hh).get? b=some o:=fun b o e=>q_v (I1.bk b o e) ((hH b).mpr (.inl (by rw [e];nofun)))
 have gcf:(hidT s1.heap Hh).get? cf=some oce:=q_v hoce ((hH cf).mpr (.inr rfl))
 have e1:=I1.env0
 have hM:Mod X.K X.mg (hidT s1.heap Hh):=⟨e1.mod.kin.keeps bk',e1.mod.glob.keeps bk',let ⟨mb,a,b⟩:=e1.mod.blt;⟨mb,a.keeps bk',b⟩,e1.mod.nolimit.keeps bk'⟩
 have hcf0:X.s₀.heap.objs.size<=cf:=I1.ok.cab fr cf hfn hce
 have hfrm:∀ b∈frs X.stack,b≠cf:=fun b hb' z=>by
  rcases I1.ok.stk with hs | ⟨hs,hl⟩
  ·rw [hs] at hb'
   obtain ⟨_,o,ho,_⟩:=I1.ok.funs.mem hb'
   have:=Heap.lt_size ho
   rw [z] at this
   exact absurd (Nat.lt_of_lt_of_le this hcf0) (Nat.lt_irrefl _)
  ·rw [hs] at hb'
   have hfr:frs (X.env::X.outer)=X.env.locals::frs X.outer:=by
    show (X.env::X.outer).filterMap (fun x=>x.frame)=_
    rw [List.filterMap_cons,hl]
    rfl
   rw [hfr] at hb'
   rcases List.mem_cons.mp hb' with hb' | hb'
   ·exact I1.cne fr cf hce (by rw [<-z,hb'])
   ·obtain ⟨_,o,ho,_⟩:=I1.ok.funs.mem hb'
    have:=Heap.lt_size ho
    rw [z] at this
    exact absurd (Nat.lt_of_lt_of_le this hcf0) (Nat.lt_irrefl _)
 have e0:Env0 X.prog X.w X.K X.mg (hidT s1.heap Hh) X.A X.stack s1 H1:=⟨e1.frames,e1.gd,hM,fun b o e=>by
   obtain ⟨h1,h2⟩:=m_u e
   refine ⟨h1,?_⟩
   rcases (hH b).mp h2 with h3 | h3
   ·cases e3:X.base.get? b with
    | none=>exact absurd e3 h3
    | some o'=>exact (e1.bs b o' e3).2
   ·rw [h3]
    exact I1.freeC fr cf hce,Nat.le_of_eq (o_l _ _),l_y e1.funs fun b hb'=>by
   cases e3:(hidT s1.heap Hh).get? b with
   | none=>rfl
   | some o =>
    obtain ⟨h1,h2⟩:=m_u e3
    rcases (hH b).mp h2 with h3 | h3
    ·exact absurd (e1.funs.mem hb').1 h3
    ·exact absurd h3 (hfrm b hb'),e1.frf,e1.hok,e1.bare⟩
 have hl:us.length=ps.length:=by rw [<-r.length];exact (F _).len _ _ _ _ (q _ oce uy gcf hcv ry)
 have hb2:=hb s1 us I1.kIn (by rw [List.append_nil];exact hl)
 rw [List.append_nil] at hb2
 refine wpAny_call (codeAny_mono ((F _).run X.A X.stack s1 H1 ⟨us,[]⟩ us vs Q E0 hr e0 hb2 r (q _ oce uy gcf hcv ry)) fun r s' hq=>?_)
 cases r with
 | error e=>exact hq.elim
 | ok fl =>
  cases fl with
  | ret u=>exact I1.after hq
  | next=>exact False.elim hq
  | brk=>exact False.elim hq
  | cont=>exact False.elim hq
theorem pe_fnV{x:Str}{p:Pos}{f:Addr}(hg:Gl X x)(hm:X.mg x=some (.ref f))(hdb:(x == ("__debug__" : Str))=false:=by decide):PE X (.Name x p) (tC (.ref f)):=fun pins s σ H Q I h=>r_f I hg hm ⟨.ref f,H,I,rfl,h⟩ hdb
end
open PySem PySem.Spec PyProof.Rows
section
variable {X:Cx} {pins:List (Addr×Obj)} {σ:St} {H:Hp} {s:Shared} {h':Heap}
theorem Inv.turnedL{t':Nat}{ch:List Addr}(I:Inv X pins σ H s)(k:∀ b o,b∉ch->s.heap.get? b=some o->h'.get? b=some o)(hc:∀ b∈ch,FpOk X pins H b):Inv X pins σ H { s with heap:=h',toks:=t' }:=by
 have nit:∀ b u,H b=some u->b∉ch:=fun b u e z=>by have:=(hc b z).1;rw [this] at e;cases e
 refine I.step (g':=s.gens) (d':=s.drawn) (ch:=ch) (fun b hb=>?_) (fun b o _ _ hn e _=>k b o hn e) (fun b o _ _ hn e _=>⟨o.slots,k b o hn e⟩) (fun _ _ _ _ n=>n)
  (fun b o hn e=>⟨o,k b o hn e⟩) (fun _ _ e=>e) (fun _ _ _ e=>e) (fun _ _ _ e=>e) (fun m hm=>?_) (fun b u e=>?_) I.bare
 ·obtain ⟨_,f1,_,f3,f4,f5⟩:=hc b hb
  exact ⟨f3,f1,f4,f5⟩
 ·obtain ⟨o,es,ep,ho,r⟩:=hm
  exact ⟨o,es,ep,k _ o (fun z=>(hc _ z).2.1 rfl) ho,r⟩
 ·refine (I.hok b u e).stay (fun c v hn q=>k c v ?_ q) (fun _ q=>q) (fun _ _ q=>q) fun _ _ _ q=>q
  rcases hn with z | z
  ·rw [z];exact nit b u e
  ·exact nit c _ z
end
def Itz(K : PySem.W.Frag)(a b : Addr) : It :=
  ⟨fun i H => ∃ xs ys x y, SqL K H a xs /\ SqL K H b ys /\ xs[i]? = some x /\ ys[i]? = some y,
   fun i H v H' => ∃ p x y, v = .ref p /\ H p = none /\ H' = upd H p (.tup [x, y]) /\ (∀ xs, SqL K H a xs -> xs[i]? = some x) /\ ∀ ys, SqL K H b ys -> ys[i]? = some y,
   fun i H => ∃ xs ys, SqL K H a xs /\ SqL K H b ys /\ (xs.length <= i \/ ys.length <= i)⟩
theorem turn_zip{P:Program}{w:World}{K:PySem.W.Frag}{elts:List Expr}{kk:Nat}{pos:Pos}(a b z TI TO i1 i2:Addr)(D:ZipApart z TI TO i1 i2 a b) :
  Turn P w K (.Tuple elts kk pos) (Itz K a b) [z,TI,TO,i1,i2] z (fun i h=>IsZip h z TI TO .none/\IsPair h TI (.ref i1) (.ref i2)/\(∃ c d,IsPair h TO c d)/\h.IsListIter i1 a i/\h.IsListIter i2 b i) where
 mem:=by simp
 obj:=fun i h st c hc=>by
  obtain ⟨h1,h2,⟨x,y,h3⟩,⟨o4,e4,c4,d4⟩,⟨o5,e5,c5,d5⟩⟩:=st
  have hc':c=z\/c=TI\/c=TO\/c=i1\/c=i2:=by simpa using hc
  rcases hc' with rfl | rfl | rfl | rfl | rfl
  ·exact ⟨_,h1,fun v q=>by cases q⟩
  ·exact ⟨_,h2,fun v q=>by cases q⟩
  ·exact ⟨_,h3,fun v q=>by cases q⟩
  ·exact ⟨o4,e4,fun v q=>by rw [d4] at q;cases q⟩
  ·exact ⟨o5,e5,fun v q=>by rw [d5] at q;cases q⟩
 keep:=fun i h h' st k=>by
  obtain ⟨h1,h2,⟨x,y,h3⟩,h4,h5⟩:=st
  exact ⟨k z (by simp) _ h1,k TI (by simp) _ h2,⟨x,y,k TO (by simp) _ h3⟩,h4.at fun o e=>k i1 (by simp) o e,h5.at fun o e=>k i2 (by simp) o e⟩
 item:=by
  intro X hP hw hK hc i pins s σ H E I hf st hg
  subst hP hw hK
  obtain ⟨xs,ys,x,y,hq1,hq2,hx,hy⟩:=hg
  obtain ⟨its1,rv1,p1,hz1⟩:=I.list hq1
  obtain ⟨its2,rv2,p2,hz2⟩:=I.list hq2
  obtain ⟨u1,hu1,ru1⟩:=rv1.get hx
  obtain ⟨u2,hu2,ru2⟩:=rv2.get hy
  obtain ⟨sz,sTI,⟨c,d,sTO⟩,s1,s2⟩:=st
  refine wpAny_pyNext_zip_item D sz sTI sTO s1 s2 p1.isList p2.isList (x:=u1) (y:=u2) (by simpa using hu1) (by simpa using hu2) fun h' b1 b2 b3 b4 b5 b6 hk=>?_
  have lt:∀ {c o},s.heap.get? c=some o->c≠s.heap.objs.size:=fun e=>Nat.ne_of_lt (Heap.lt_size e)
  have I0:Inv X pins σ (upd H s.heap.objs.size (.tup [x,y])) { s with heap:=s.heap.push { cls:=.type "tuple",data:=.seq #[u1,u2] },toks:=s.toks } :=
   I.laid (a:=s.heap.objs.size) (o:=.tup [x,y]) (t':=s.toks) (fun b u e=>Heap.get?_push_of_some _ e) (Nat.le_refl _) ⟨zl2,[u1,u2],.cons ru1 (.cons ru2 .nil),_,Heap.get?_push_size _ rfl,rfl,_,rfl⟩
  have hnone:∀ c∈[z,TI,TO,i1,i2],(upd H s.heap.objs.size (.tup [x,y])) c=none:=fun c hc'=>by
   have hne:c≠s.heap.objs.size:=by
    have hc'':c=z\/c=TI\/c=TO\/c=i1\/c=i2:=by simpa using hc'
    rcases hc'' with rfl | rfl | rfl | rfl | rfl
    ·exact lt sz
    ·exact lt sTI
    ·exact lt sTO
    ·obtain ⟨_,e,_⟩:=s1;exact lt e
    ·obtain ⟨_,e,_⟩:=s2;exact lt e
   rw [z_r hne]
   exact (hf c hc').1
  have hf':∀ c∈[z,TI,TO,i1,i2],FpOk X pins (upd H s.heap.objs.size (.tup [x,y])) c:=fun c hc'=>⟨hnone c hc',(hf c hc').2⟩
  have kk1:∀ c o,c∉[z,TO,i1,i2]->(s.heap.push { cls:=.type "tuple",data:=.seq #[u1,u2] }).get? c=some o->h'.get? c=some o:=fun c o hn e=>by
   rcases Heap.get?_push_cases e with ⟨rfl,rfl⟩ | e'
   ·exact b5
   ·exact hk c o (fun q=>hn (by simp [q])) (fun q=>hn (by simp [q])) (fun q=>hn (by simp [q])) (fun q=>hn (by simp [q])) e'
  have kk2:∀ c∈[z,TO,i1,i2],FpOk X pins (upd H s.heap.objs.size (.tup [x,y])) c:=fun c hc'=>hf' c (by
   have hc'':c=z\/c=TO\/c=i1\/c=i2:=by simpa using hc'
   rcases hc'' with rfl | rfl | rfl | rfl<;>simp)
  have I1:=I0.turnedL (h':=h') (t':=s.toks) (ch:=[z,TO,i1,i2]) kk1 kk2
  refine ⟨_,rfl,wpAny_letOwnedTupleGo_zip b1 fun h2 c1 c2=>?_⟩
  have I2:=I1.turnedL (h':=h2) (t':=s.toks) (ch:=[z]) (fun c o hn e=>(c2.2 c (fun q=>hn (by simp [q]))).trans e) (fun c hc'=>hf' c (by rw [List.mem_singleton.mp hc'];simp))
  refine ⟨.ref s.heap.objs.size,_,I2,rfl,⟨_,x,y,rfl,I.hok.fresh (Nat.le_refl _),rfl,fun xs' q=>by rw [I.list_inj q hq1];exact hx,fun ys' q=>by rw [I.list_inj q hq2];exact hy⟩,?_,hnone⟩
  have mv:∀ c o,c≠z->h'.get? c=some o->h2.get? c=some o:=fun c o hn e=>(c2.2 c hn).trans e
  exact ⟨c1,mv _ _ D.TIz (hk _ _ D.TIz D.TITO D.TIi1 D.TIi2 sTI),⟨_,_,mv _ _ D.TOz b2⟩,b3.at fun o e=>mv _ o D.i1z e,b4.at fun o e=>mv _ o D.i2z e⟩
 done:=by
  intro X hP hw hK hc i pins s σ H E I hf st hg
  subst hP hw hK
  obtain ⟨xs,ys,hq1,hq2,hx⟩:=hg
  obtain ⟨its1,rv1,p1,hz1⟩:=I.list hq1
  obtain ⟨its2,rv2,p2,hz2⟩:=I.list hq2
  have l1:=rv1.length
  have l2:=rv2.length
  obtain ⟨sz,sTI,⟨c,d,sTO⟩,s1,s2⟩:=st
  refine wpAny_pyNext_zip_end (I.ok.hd hc) D sz sTI sTO s1 s2 p1.isList p2.isList ?_ fun h' hk=>⟨rfl,I.turnedL (t':=s.toks) (ch:=[z,TO,i1,i2]) (fun c o hn e=>hk c o (fun q=>hn (by simp [q])) (fun q=>hn (by simp [q])) (fun q=>hn (by simp [q])) (fun q=>hn (by simp [q])) e) (fun c hc'=>hf c ?_)⟩
  ·rcases hx with q | q
   ·exact .inl (by simp;lia)
   ·exact .inr (by simp;lia)
  ·have hc'':c=z\/c=TO\/c=i1\/c=i2:=by simpa using hc'
   rcases hc'' with rfl | rfl | rfl | rfl<;>simp
 self:=fun _ _ _ _ _ st h=>wpAny_pyIter_zip st.1 h
def iZip(K:PySem.W.Frag)(ta:TA):TI:=fun σ H R=>ta σ H fun vs H1=>∃ a b,vs=[.ref a,.ref b]/\(∃ xs,SqL K H1 a xs)/\(∃ ys,SqL K H1 b ys)/\R (Itz K a b) H1
theorem pi_zip{X:Cx}{elts:List Expr}{kk:Nat}{tpos:Pos}{a b:Expr}{ta:TA}{p pos:Pos}(hg:Gl X "zip")(hm:X.mg "zip" = none)(ha:PA X [a,b] ta)(hs:starEach [a,b] X.env=[(false,eval a X.env),(false,eval b X.env)]:=by rfl)(hs2:starEach [b] X.env=[(false,eval b X.env)]:=by rfl) :
  PI X (.Tuple elts kk tpos) (.Call (.Name "zip" p) [a,b] [] pos) (iZip X.K ta):=by
 intro pins s σ H R I h
 refine Call_ (t_f I hg hm PyProof.Rows.boot_zip (PyProof.Rows.callWith_type1 (thn (ha pos pins s σ H _ I h) fun us s1 ⟨vs,H1,I1,r1,q1⟩=>?_) (by rw [hs,hs2]) (by rw [hs2];rfl)))
 obtain ⟨l1,l2,e,⟨xs,hq1⟩,⟨ys,hq2⟩,q⟩:=q1
 subst e
 cases r1 with
 | cons r rr =>
  cases rr with
  | cons r' rr =>
   cases rr
   cases r
   cases r'
   obtain ⟨its1,rv1,p1,hz1⟩:=I1.list hq1
   obtain ⟨its2,rv2,p2,hz2⟩:=I1.list hq2
   have hlt1 : @LT.lt Nat _ l1 s1.heap.objs.size:=by obtain ⟨o,e,_⟩:=p1.isList;exact Heap.lt_size e
   have hlt2 : @LT.lt Nat _ l2 s1.heap.objs.size:=by obtain ⟨o,e,_⟩:=p2.isList;exact Heap.lt_size e
   refine call_zip_2 p1.isList p2.isList fun h' hz hTI hTO hi1 hi2 hsz hk=>wpAny_pyIter_zip hz ?_
   have D:ZipApart (s1.heap.objs.size+4) (s1.heap.objs.size+2) (s1.heap.objs.size+3) s1.heap.objs.size (s1.heap.objs.size+1) l1 l2:=PySem.W.ktu_apart _ _ _ hlt1 hlt2
   refine ⟨_,[s1.heap.objs.size+4,s1.heap.objs.size+2,s1.heap.objs.size+3,s1.heap.objs.size,s1.heap.objs.size+1],_,_,H1,rfl,I1.kept (t':=s1.toks) hk,turn_zip l1 l2 _ _ _ _ _ D,⟨hz,hTI,⟨_,_,hTO⟩,hi1,hi2⟩,fun c hc=>?_,q⟩
   have hc':c=s1.heap.objs.size+4\/c=s1.heap.objs.size+2\/c=s1.heap.objs.size+3\/c=s1.heap.objs.size\/c=s1.heap.objs.size+1:=by simpa using hc
   have hle : @LE.le Nat _ s1.heap.objs.size c:=by
    rcases hc' with rfl | rfl | rfl | rfl | rfl
    ·exact Nat.le_add_right _ _
    ·exact Nat.le_add_right _ _
    ·exact Nat.le_add_right _ _
    ·exact Nat.le_refl _
    ·exact Nat.le_add_right _ _
   exact I1.fpOk hle (I1.hok.fresh hle)
theorem for_zip{K:PySem.W.Frag}{a b:Addr}{xs ys:List V}{g:TG}{tb:TS}{D:Ends}{σ:St}{H:Hp}(Pv:Nat->St->Hp->Prop)(h0:Pv 0 σ H)(hl:∀ i σ H,Pv i σ H->SqL K H a xs/\SqL K H b ys)(he:xs.length=ys.length)
  (hs:∀ i x y p σ H,xs[i]? = some x->ys[i]? = some y->Pv i σ H->H p=none->g (.ref p) σ (upd H p (.tup [x,y])) fun σ2 H2=>tb { D with nx:=Pv (i+1),ct:=Pv (i+1),bk:=D.nx } σ2 H2) (hd:∀ σ H,Pv xs.length σ H->D.nx σ H) :
  ∃ W:Nat->Nat->St->Hp->Prop,(∃ m,W 0 m σ H)/\∀ i m σ H,W i m σ H ->
   ((Itz K a b).stop i H/\D.nx σ H)\/((Itz K a b).go i H/\∃ N:St->Hp->Prop,(∀ σ' H',N σ' H'->∃ m',m'<m/\W (i+1) m' σ' H')/\∀ x H',(Itz K a b).yld i H x H'->g x σ H' fun σ2 H2=>tb { D with nx:=N,ct:=N,bk:=D.nx } σ2 H2):=by
 refine ⟨fun i m σ H=>m=xs.length-i/\i<=xs.length/\Pv i σ H,⟨xs.length,by simp,Nat.zero_le _,h0⟩,?_⟩
 rintro i m σ H ⟨rfl,hi,p⟩
 obtain ⟨q1,q2⟩:=hl i σ H p
 by_cases hlt:i<xs.length
 ·have hlt2:i<ys.length:=by lia
  refine .inr ⟨⟨xs,ys,xs[i],ys[i],q1,q2,by simp [hlt],by simp [hlt2]⟩,Pv (i+1),fun σ' H' p'=>⟨xs.length-(i+1),by lia,rfl,hlt,p'⟩,fun v H' y=>?_⟩
  obtain ⟨pp,x,y,rfl,hp,rfl,e1,e2⟩:=y
  exact hs i x y pp σ H (e1 xs q1) (e2 ys q2) p hp
 ·have e:i=xs.length:=by lia
  subst e
  exact .inl ⟨⟨xs,ys,q1,q2,.inl (Nat.le_refl _)⟩,hd σ H p⟩
open PySem PySem.Spec PyProof.Rows
def rCatE:R2:=fun x y H Q=>∃ a b xs ys,x = .ref a/\y = .ref b/\H a=some (.tup xs)/\H b=some (.tup ys)/\xs.length+ys.length<=sizeLine/\∀ p H',Same H H'->H' p=some (.tup (xs++ys))->Q (.ref p) H'
theorem op_catE{X:Cx}:OpR X (binaryOp .Add) rCatE:=by
 intro pins s σ H x y v u Q I rx ry h
 obtain ⟨a,b,xs,ys,rfl,rfl,ha,hb,hz,q⟩:=h
 by_cases he:xs=[]
 ·subst he
  cases rx
  cases ry
  obtain ⟨its,r1,p1,_⟩:=I.tuple (SqT.of ha)
  obtain ⟨its2,r2,p2,_⟩:=I.tuple (SqT.of hb)
  cases r1
  obtain ⟨⟨cls,dd,data,sl⟩,ho,hc,n,hd⟩:=id p1
  obtain ⟨⟨cls2,dd2,data2,sl2⟩,ho2,hc2,n2,hd2⟩:=id p2
  simp only at hc hd hc2 hd2
  subst hc hd hc2 hd2
  exact concat_meets ⟨_,ho,rfl⟩ ⟨_,ho2,rfl⟩ noFill_tuple_add seq_tuple_add PySem.F.slot_tuple_add PySem.F.entry_tuple_add (PySem.F.args_tuple_add_2 _ _)
   (tuple_addW0 a b _ _ n n2 dd dd2 sl sl2 (by simp)) ⟨ho,ho2,⟨.ref b,H,I,rfl,q b H (Same.refl H) hb⟩⟩
 ·exact op_catT pins s σ H _ _ v u Q I rx ry ⟨a,b,xs,ys,rfl,rfl,SqT.of ha,SqT.of hb,he,hz,fun e=>q a H (Same.refl H) (by rw [e,List.append_nil];exact ha),fun _ p hp=>q p _ (z_f hp _) z_d⟩
open PySem
theorem ext_tup(D T:Addr)(xs ys:Array Value)(k j:Nat)(dd:Option Addr)(sl:Array (Option Value))(h0:¬(!xs.isEmpty&&Builtin.List.listTooLong (xs.size+ys.size))=true)(h1:xs.size<=sizeLine)(h2:xs.size+ys.size<=sizeLine+1) :
  Meets (Builtin.«list.extend» ⟨[.ref D,.ref T],[]⟩) (fun _ R s=>s.heap.get? D=some { cls:=.type "list",dict:=none,data:=.seq xs k,slots:=#[] }/\s.heap.get? T=some { cls:=.type "tuple",dict:=dd,data:=.seq ys j,slots:=sl } /\
   R (.ok (.ret Value.none)) { s with heap:=s.heap.update D (Obj.mapSeq fun x=>x++ys),toks:=s.toks }) :=
 .of_wp fun prog w A R s h=>by
  obtain ⟨hp,g,d,tk,os⟩:=s
  obtain ⟨hD,hT,h⟩:=h
  have f1:=AutoSeq1.idx_int
  have f2:=AutoSeq1.sub_tuple_tuple
  have f3:=AutoSeq1.sub_list_list
  have f4:=AutoSeq1.sub_tuple_list
  have f5:=AutoSeq1.sub_list_tuple
  have hz':(xs++ys).size<=sizeLine+1:=by rw [Array.size_append];exact h2
  wp_walk using (wpAny_updateSeq hD rfl (hz:=h1) (_hz':=hz')),wpAny_loadPart' hD,wpAny_loadPart' hT
  exact ⟨_,rfl,h⟩
def rExtendT:V->List V->Hp->VK->Prop:=fun x vs H Q=>∃ l b xs zs,x = .ref l/\vs=[.ref b]/\H l=some (.lst xs)/\H b=some (.tup zs)/\xs.length+zs.length<=sizeLine/\Q .non (upd H l (.lst (xs++zs)))
theorem j_y{X:Cx}:MtM X "list.extend" rExtendT:=by
 intro pins s σ H x vs v us Q I rx rv h
 obtain ⟨l,b,xs,zs,rfl,rfl,hH,hB,hz,q⟩:=h
 cases rx
 obtain ⟨u,rfl,ru⟩:=rv.one
 cases ru
 obtain ⟨z,its,n,r,hl,e⟩:=I.lstM hH
 obtain ⟨its2,r2,p2,_⟩:=I.tuple (SqT.of hB)
 have hl2:=r2.length
 obtain ⟨⟨cls,dd,data,sl⟩,ho,hc,n2,hd⟩:=id p2
 simp only at hc hd
 subst hc hd
 have hsz:its.toArray.size+its2.toArray.size<=sizeLine:=by rw [List.size_toArray,List.size_toArray];lia
 have hlong:¬(!its.toArray.isEmpty&&Builtin.List.listTooLong (its.toArray.size+its2.toArray.size))=true:=by
  rw [notLongL hsz,Bool.and_false];exact Bool.false_ne_true
 refine call_meets PySem.F.slot_list_extend ⟨_,e,rfl⟩ PySem.F.entry_list_extend (PySem.F.args_list_extend_2 _ _)
  (ext_tup l b its.toArray its2.toArray n n2 dd sl hlong (by rw [List.size_toArray];lia) (by lia)) ⟨e,ho,?_⟩
 refine ⟨.non,_,I.lset (its':=its++its2) hH e (by simp) (r.append r2) ?_,rfl,q⟩
 rw [List.length_append];lia
end L2
namespace HT
open PySem PyProof.Rows
section
variable {prog:Program} {w:World} {A:Around} {s:Shared} {E:Value->Shared->Prop}
theorem getItem_tuple_whole{t sl:Addr}{items:Array Value}{vl vu:Value}{lo hi:Option Int}{Q:Value->Shared->Prop}(ht:IsTup s.heap t items)(hs:s.heap.IsSliceOf sl vl vu .none)(pl:IsPart vl lo)(pu:IsPart vu hi)
  (hw:sIx items.size 0 lo=0/\sIx items.size items.size hi=items.size) (h:Q (.ref t) s):wpAny (model prog w) A (getItem (.ref t) (.ref sl)) Q E s:=by
 obtain ⟨os,hos,hcs,hds⟩:=id hs
 have hTs:s.TypeIs (.ref sl) "slice" := ⟨os,hos,hcs⟩
 unfold getItem
 try with_reducible refine wpAny_holding ?_
 first | refine wpAny_bind (wpAny_pure ?_) | skip
 refine wpAny_bind (wpAny_sequenceKey ht.typeIs (by decide) ?_)
 refine wpAny_bind (wpAny_callSpecial?_slot (name:=Str.ofString "__getitem__") ht.typeIs PyProof.Rows.slot_tuple_getitem
  (wpAny_call_entry PyProof.Rows.slot_tuple_getitem ht.typeIs entry_tuple_getitem ?_ (args_tuple_getitem _ _)))
 show wpAny _ _ (Builtin.Tuple.tupleItemsOf (.ref t) >>= _) _ _ s
 refine wpAny_bind (tupleItemsOf_ ht ?_)
 refine wpAny_bind (wpAny_typeOf hTs ?_)
 rw [if_pos (by decide)]
 refine wpAny_bind (u_h hs pl pu ?_)
 have hyes:((((sIx items.size 0 lo:Nat):Int) == 0&&(1:Int) == 1&&(sIx items.size items.size hi-sIx items.size 0 lo) == items.size)=true):=by
  rw [hw.1,hw.2]
  simp
 show wpAny _ _ (if (((sIx items.size 0 lo:Nat):Int) == 0&&(1:Int) == 1&&(sIx items.size items.size hi-sIx items.size 0 lo) == items.size)=true then _ else _) _ _ s
 rw [if_pos hyes]
 refine wpAny_bind (m:=Builtin.Tuple.tupleIsExact _) (wpAny_bind (wpAny_typeOf ht.typeIs (wpAny_pure ?_)))
 rw [if_pos (by decide)]
 exact wpAny_bind (wpAny_rule (wpAny_pure ⟨_,rfl,wpAny_pure h⟩))
end
end HT
namespace L2
open PySem PySem.Spec PyProof.Rows
def rSlE:V->Option Int->Option Int->Hp->VK->Prop:=fun x lo hi H Q=>∃ a xs,x = .ref a/\H a=some (.tup xs)/\∀ p H',Same H H'->H' p=some (.tup (cutV xs lo hi))->Q (.ref p) H'
theorem f_f{X:Cx}:SlR X rSlE:=by
 intro pins s σ H x v vl vu lo hi sl Q I rx hs pl pu h
 obtain ⟨a,xs,rfl,hx,q⟩:=h
 by_cases hw:HT.sIx xs.length 0 lo=0/\HT.sIx xs.length xs.length hi=xs.length
 ·cases rx
  obtain ⟨its,r,ht,hz⟩:=I.tuple (SqT.of hx)
  have hlen:its.toArray.size=xs.length:=by rw [List.size_toArray];exact r.length.symm
  refine ⟨"tuple",_,PyProof.Rows.slot_tuple_getitem.lookup,ht.typeIs,?_⟩
  refine HT.getItem_tuple_whole ht hs pl pu (by rw [hlen];exact hw) ?_
  refine ⟨.ref a,H,I,rfl,q a H (Same.refl H) ?_⟩
  have:cutV xs lo hi=xs:=by
   unfold cutV
   rw [hw.1,hw.2]
   simp
  rw [this]
  exact hx
 ·exact sl_tup pins s σ H _ v vl vu lo hi sl Q I rx hs pl pu ⟨a,xs,rfl,SqT.of hx,hw,fun p hp=>q p _ (z_f hp _) z_d⟩
open PySem
section
variable {prog:Program} {w:World} {K:Type} [DecidableEq K] {knd:KeyKind prog w K}
def Ext(h h':Heap):Prop:=∀ b o,h.get? b=some o->h'.get? b=some o
variable {A:Around} {E:Value->Shared->Prop} {s:Shared}
theorem i_n{α:Type}{ks:List α}{i:Nat}(d:α)(h:i<ks.length):ks.take (i+1)=ks.take i++[ks.getD i d]:=by
 rw [List.take_add_one,List.getElem?_eq_getElem h,List.getD_eq_getElem?_getD,List.getElem?_eq_getElem h]
 rfl
def mtSet(led:Bool):Obj:={ cls:=.type "set",dict:=none,data:=.set #[] 0 (.fresh 0 0 led) }
def withSet(s:Shared)(led:Bool):Shared:={ s with heap:=s.heap.push (mtSet led) }
theorem s_e(s:Shared)(led:Bool):(withSet s led).heap.get? s.heap.objs.size=some (mtSet led):=Heap.get?_push_size _ rfl
theorem q_e{s:Shared}{led:Bool}{b:Addr}{o:Obj}(e:s.heap.get? b=some o):(withSet s led).heap.get? b=some o:=Heap.get?_push_of_some _ e
theorem m_e(s:Shared)(led:Bool):(withSet s led).heap.objs.size=s.heap.objs.size+1:=Heap.size_push _ _
theorem o_w{h:Heap}{a:Addr}(q:h.objs.size<=a):h.get? a=none:=by
 cases e:h.get? a with
 | none=>rfl
 | some o=>exact absurd (Heap.lt_size e) (Nat.not_lt.mpr q)
end
end L2
namespace L2
open PySem PySem.Spec PyProof.Rows
end L2
namespace L2
open PySem PySem.Spec PyProof.Rows
section
variable {prog:Program} {w:World} {K:Type} [DecidableEq K] {knd:KeyKind prog w K} {A:Around} {E:Value->Shared->Prop} {s:Shared}
theorem r_w{h h':Heap}{S:Addr}{n:Nat}{f:K->Bool}(x:Heap.SetOf knd h S f n)(e:∀ o,h.get? S=some o->h'.get? S=some o):Heap.SetOf knd h' S f n:=by
 obtain ⟨o,es,ep,t,ho,r⟩:=x
 exact ⟨o,es,ep,t,e _ ho,r⟩
theorem setOf_eq{h:Heap}{S:Addr}{n:Nat}{f g:K->Bool}(x:Heap.SetOf knd h S f n)(e:∀ k,f k=g k):Heap.SetOf knd h S g n:=by
 rw [<-funext e]
 exact x
end
def SAtT(a:Addr)(n:Nat)(h:Heap):Prop:=n<4000/\∃ o es ep t,h.get? a=some o/\o.ExactSet/\o.data = .set es ep t/\t.fits es.size=true/\es.size=n
def STO(a:Addr)(n:Nat):HO:=.ext (SAtT a n)
theorem f_b{a:Addr}{n:Nat}:∀ h1 h2:Heap,SAtT a n h1->(∀ o,h1.get? a=some o->h2.get? a=some o)->SAtT a n h2:=fun h1 h2 u k=>by
 obtain ⟨z,o,es,ep,t,e,q⟩:=u
 exact ⟨z,o,es,ep,t,k _ e,q⟩
def tLenT(xs:List V)(H:Hp)(Q:VK):Prop:=∃ (a:Addr) (n:Nat),xs=[.ref a]/\H a=some (STO a n)/\Q (.int n) H
theorem j_h{X:Cx}:CallR X (.builtin "len") tLenT:=by
 intro pins s σ H xs us Q I r h
 obtain ⟨a,n,rfl,hp,q⟩:=h
 obtain ⟨u,rfl,ru⟩:=vals1 r
 cases ru
 obtain ⟨⟨z,o,es,ep,t,h1,h2,h3,h4,h5⟩,_⟩:=(show ObjOk X.prog X.w H s.heap a (STO a n) from I.hok a _ hp)
 refine Calls.call_function_entry kind_len plain_len entry_len (args_len1 _) (wpAny_len_body_set h1 h2 h3 h4 ?_ ?_)
 ·rw [h5]
  exact Int.lt_of_le_of_lt (Int.ofNat_le.mpr (Nat.le_of_lt z)) (by decide)
 ·exact ⟨.int n,H,(I.tok _).tok _,⟨_,by rw [h5]⟩,q⟩
end L2
namespace L2
open PySem PySem.Spec PyProof.Rows
section
variable {prog:Program} {w:World} {K:Type} [DecidableEq K] {knd:KeyKind prog w K} {A:Around} {E:Value->Shared->Prop} {s:Shared}
def ucn(ks:List K)(d0:K):Nat->Nat
 | 0=>0
 | i+1=>if ks.getD i d0∈ks.take i then ucn ks d0 i else ucn ks d0 i+1
theorem j_a(ks:List K)(d0:K):∀ i,ucn ks d0 i<=i
 | 0=>Nat.le_refl _
 | i+1=>by
  have:=j_a ks d0 i
  unfold ucn
  split<;>lia
theorem loopI{R:Result->Shared->Prop}{I:Addr}{fp wr:List Addr}{G:Array GenState->Array GenState->Prop}{n:Nat}{P:Nat->Value->Prop}{St:Nat->Shared->Prop}
  (W:WalksS prog w A.in1 I fp wr G n P St) (S:Addr) (far:S∉fp) (ks:List K) (d0:K) (hl:ks.length=n) (hn:n<4000) (h0:Heap)
  (ky:∀ i v,P i v->knd.is (ks.getD i d0) v=true/\v.scannable=true) (h0S:h0.get? S=none) (h0w:∀ b∈wr,h0.get? b=none) (uz:A.units+2<cLine) :
  ∀ (left i:Nat) (z:Shared),i+left=n->St i z->Ext h0 z.heap->Heap.SetOf knd z.heap S (fun k=>decide (k∈ks.take i)) (ucn ks d0 i) ->
   (∀ y,Moved (S::wr) G z y->Heap.SetOf knd y.heap S (fun k=>decide (k∈ks)) (ucn ks d0 n)->R (.ok (.ret .none)) y) ->
   codeAny (model prog w) A (.builtin "set.update.loop" ⟨[.ref S,.ref I],[]⟩) R z
 | 0,i,z,e,wi,ex,si,out=>by
  obtain rfl:i=n:=e
  have nw:S∉wr:=fun q=>far (W.sub S q)
  refine codeAny_builtin PyProof.Rows.F.entry_set_update_loop ?_
  rw [Around.under_plainId PyProof.Rows.F.plain_set_update_loop _]
  show wpAny _ A.in1 (pyNext (.ref I) >>= _) _ _ z
  refine wpAny_bind (W.done z _ _ wi fun y mv=>?_)
  rw [<-hl,List.take_length] at si
  rw [<-hl] at out
  exact wpAny_pure (out y (mv.mono fun b=>List.mem_cons_of_mem _) (r_w si fun o q=>mv.heap S o nw q))
 | left+1,i,z,e,wi,ex,si,out=>by
  have nw:S∉wr:=fun q=>far (W.sub S q)
  have il:i<ks.length:=by lia
  refine codeAny_builtin PyProof.Rows.F.entry_set_update_loop ?_
  rw [Around.under_plainId PyProof.Rows.F.plain_set_update_loop _]
  show wpAny _ A.in1 (pyNext (.ref I) >>= _) _ _ z
  refine wpAny_bind (W.item i z _ _ (by lia) wi fun v y pv wj mv=>?_)
  obtain ⟨kb,sb⟩:=ky i v pv
  have sy:=r_w si (h':=y.heap) fun o q=>mv.heap S o nw q
  have ey:Ext h0 y.heap:=fun c o q=>mv.heap c o (fun hc=>by rw [h0w c hc] at q;cases q) (ex c o q)
  show wpAny _ A.in1 (holding [v] (setAdd S v) >>= _) _ _ y
  refine wpAny_bind (wpAny_holding ?_)
  unfold setAdd
  refine wpAny_holding (wpAny_bind (knd.pyHash kb ?_))
  refine wpAny_setAddHashed_of (s:={ y with toks:=y.toks+1 }) kb sb sy (Nat.lt_trans (show ucn ks d0 i+1<4001 by have:=j_a ks d0 i;lia) (by decide)) fun hn' only sn=>?_
  have sn:Heap.SetOf knd hn' S (fun k=>decide (k∈ks.take (i+1))) (ucn ks d0 (i+1)):=by
   have eu:ucn ks d0 (i+1)=if decide (ks.getD i d0∈ks.take i)=true then ucn ks d0 i else ucn ks d0 i+1:=by
    show (if ks.getD i d0∈ks.take i then ucn ks d0 i else ucn ks d0 i+1)=_
    by_cases c:ks.getD i d0∈ks.take i
    ·rw [if_pos c,if_pos (decide_eq_true c)]
    ·rw [if_neg c,if_neg (fun h=>c (of_decide_eq_true h))]
   rw [eu]
   refine setOf_eq sn fun k=>?_
   rw [i_n d0 il]
   by_cases h1:k∈ks.take i
   ·simp [h1]
   ·by_cases h2:k=ks.getD i d0
    ·simp [h2]
    ·simp [h1,h2]
  have oth:∀ {c:Addr} {o:Obj},c≠S->y.heap.get? c=some o->hn'.get? c=some o:=fun {c o} nc q=>by rw [only.2 c nc];exact q
  refine wpAny_pure ⟨plainId_quiet PyProof.Rows.F.plain_set_update_loop _,loopI W S far ks d0 hl hn h0 ky h0S h0w uz left (i+1) _ (by lia) (W.frame _ y _ _ wj (Nat.le_add_right _ _) fun c hc o q=>oth (fun z=>far (z▸hc)) q) (fun c o q=>oth (fun z=>by rw [z,h0S] at q;cases q) (ey c o q)) sn fun x mx sx=>?_⟩
  exact out x (Moved.trans W.gtrans ((mv.mono fun b=>List.mem_cons_of_mem _).then_heap (Nat.le_add_right _ _) fun c o hc q=>oth (fun z=>hc (z▸List.mem_cons_self)) q) mx) sx
set_option maxHeartbeats 3200000 in
theorem h_e{B:Around}{l:Addr}{items:Array Value}{ks:List K}{d0:K}{led:Bool}{F:Fin->Shared->Prop}(calm:B.handled=none)(uz:B.units+4<cLine)(at_l:s.heap.IsList l items)(same:ks.length=items.size)(few:items.size<4000)
  (ky:∀ i v,items[i]? = some v->knd.is (ks.getD i d0) v=true/\v.scannable=true)
  (out:∀ (h':Heap) (tk:Nat),s.toks<=tk->Heap.SetOf knd h' s.heap.objs.size (fun k=>decide (k∈ks)) (ucn ks d0 items.size)->Ext s.heap h'->F (.done (.ret .none)) { s with heap:=h',toks:=tk }) :
  wpAny (model prog w) B (Builtin.«set.__init__» ⟨[.ref s.heap.objs.size,.ref l],[]⟩) F E (withSet s led):=by
 have lt_l:l<s.heap.objs.size:=by obtain ⟨o,e,_⟩:=at_l;exact Heap.lt_size e
 have at_l1:(withSet s led).heap.IsList l items:=at_l.push _
 obtain ⟨⟨c,d,dt,sl⟩,e_l,e_c,n_l,e_d⟩:=at_l1
 have e_c:c = .type "list" := e_c
 have e_d:dt = .seq items n_l:=e_d
 subst e_c e_d
 have n1:=PySem.F.sub_list_set
 have n2:=PySem.F.sub_list_frozenset
 have n3:(Value.type "list" == Value.type "dict")=false:=by decide
 have e_S:=s_e s led
 unfold mtSet at e_S
 unfold Builtin.«set.__init__» noKeywords Builtin.Frozenset.updateFrom
 generalize eIt:pyIter=It
 wp_walk
 subst eIt
 have at_l1:(withSet s led).heap.IsList l items:=at_l.push _
 refine wpAny_pyIter_list at_l1 (wpAny_bind (wpAny_runValue ?_))
 have sz:=m_e s led
 have calm1:B.in1.handled=none:=by simp [calm]
 have l_it:l≠(withSet s led).heap.objs.size:=by rw [sz];exact Nat.ne_of_lt (Nat.lt_succ_of_lt lt_l)
 have far:s.heap.objs.size∉[(withSet s led).heap.objs.size,l]:=by
  rw [sz]
  simp only [List.mem_cons,List.not_mem_nil,or_false,not_or]
  exact ⟨Nat.ne_of_lt (Nat.lt_succ_self _),Nat.ne_of_gt lt_l⟩
 refine loopI (knd:=knd) (Walks.list calm1 _ l l_it items).toS s.heap.objs.size far ks d0 same few s.heap ky (o_w (Nat.le_refl _)) (fun b q=>?_) (by lia) items.size 0 _ (Nat.zero_add _) ⟨⟨_,Heap.get?_push_size _ rfl,rfl,rfl⟩,at_l1.push _⟩ (fun b o q=>Heap.get?_push_of_some _ (q_e q))
  ⟨mtSet led,#[],0,_,Heap.get?_push_of_some _ (s_e s led),⟨rfl,rfl,rfl⟩,rfl,(fun e q=>by simp at q),(fun k=>by simp),by decide,rfl,rfl⟩ fun y mv sy=>?_
 ·rw [List.mem_singleton.mp q,sz]
  exact o_w (Nat.le_succ _)
 ·have tk:=mv.toks
  have kp:Ext s.heap y.heap:=fun b o q=>by
   have lb:=Heap.lt_size q
   refine mv.heap b o ?_ (Heap.get?_push_of_some _ (q_e q))
   rw [sz]
   simp only [List.mem_cons,List.not_mem_nil,or_false,not_or]
   exact ⟨Nat.ne_of_lt lb,Nat.ne_of_lt (Nat.lt_succ_of_lt lb)⟩
  obtain ⟨hy,gy,dy,ty,oy⟩:=y
  cases (show gy=s.gens from mv.gens)
  cases (show dy=s.drawn from mv.drawn)
  cases (show oy=s.os from mv.os)
  exact wpAny_pure (wpAny_pure (out hy ty tk sy kp))
set_option maxHeartbeats 3200000 in
theorem q_r{l:Addr}{items:Array Value}{ks:List K}{d0:K}{Q:Value->Shared->Prop}(calm:A.handled=none)(uz:A.units+8<cLine)(at_l:s.heap.IsList l items)(same:ks.length=items.size)(few:items.size<4000)
  (ky:∀ i v,items[i]? = some v->knd.is (ks.getD i d0) v=true/\v.scannable=true)
  (out:∀ (h':Heap) (tk:Nat),s.toks<=tk->Heap.SetOf knd h' s.heap.objs.size (fun k=>decide (k∈ks)) (ucn ks d0 items.size)->Ext s.heap h'->Q (.ref s.heap.objs.size) { s with heap:=h',toks:=tk }) :
  wpAny (model prog w) A (call (.type "set") [.ref l]) Q E s:=by
 obtain ⟨c0,cs,m0⟩:=PySem.F.called_set.mro
 have m1:=PySem.F.called_set.made
 have m2:=PySem.F.called_set.sub
 have m3:=PySem.F.called_set.notType
 have m4:=PySem.F.called_set.canCreate
 have m5:=PySem.F.typeCall_set_1 (.ref l)
 refine wpAny_call (codeAny_of_tree (show wpAny _ _ (callAny (.type "set") _) _ _ _ from wpAny_pure ⟨Code.quiet_builtin _ (by decide +kernel),codeAny_builtin PySem.F.entry_type_call ?_⟩))
 rw [Around.under_plain (weight_type_call_type "set" [.ref l] []) rfl]
 repeat (any_goals (first | assumption | wp_step))
 refine codeAny_mono (code_set_new_1 (.ref l) (E:=E) (Q₁:=fun x z=>∃ led,x = .ref s.heap.objs.size/\z=withSet s led) fun led=>⟨led,rfl,rfl⟩) fun r z got=>?_
 match r,got with
 | .error _,got=>exact got
 | .ok (.ret _),⟨led,e1,e2⟩ =>
  subst e1 e2
  have ty:Shared.TypeIs (withSet s led) (.ref s.heap.objs.size) "set" := ⟨_,s_e s led,rfl⟩
  have m6:=PySem.F.called_set.init.lookup
  have m7:=PySem.F.called_set.init.bind (.ref s.heap.objs.size)
  repeat (any_goals (first | assumption | wp_step))
  refine codeAny_mono (codeAny_call_builtin (R:=wants (fun x y=>x = .none/\∃ h' tk,s.toks<=tk/\y={ s with heap:=h',toks:=tk }/\Heap.SetOf knd h' s.heap.objs.size (fun k=>decide (k∈ks)) (ucn ks d0 items.size)/\Ext s.heap h') E) PySem.F.called_set.init.plain PySem.F.entry_set_init
   (check_set_init_1 ty (h_e (d0:=d0) (by simp [calm]) (show A.units+1+1+4<cLine by lia) at_l same few ky fun h' tk a b c=>⟨rfl,h',tk,a,rfl,b,c⟩))) fun r2 y got2=>?_
  match r2,got2 with
  | .error _,got2=>exact got2
  | .ok (.ret _),⟨e3,h',tk,a,e4,b,c⟩ =>
   subst e3 e4
   repeat (any_goals (first | assumption | wp_step))
   exact out h' tk a b c
end
def ucI(ks:List Int):Nat:=ucn (ks.map (Sum.inl:Int->Key)) (.inr "") ks.length
def tSetI(xs:List V)(H:Hp)(Q:VK):Prop:=∃ (p:Addr) (ks:List Int),xs=[.ref p]/\H p=some (.lst (ks.map V.int))/\ks.length<4000/\∀ a,H a=none->Q (.ref a) (upd H a (STO a (ucI ks)))
theorem j_c:∀ {ks:List Int} {its:List Value},Vals (ks.map V.int) its->∀ (i:Nat) (v:Value),its[i]? = some v->∃ x,ks[i]? = some x/\RelV (.int x) v
 | [],_,h,i,v,hv=>by cases h;simp at hv
 | r::rs,_,h,i,v,hv=>by
  rw [List.map_cons] at h
  cases h with
  | cons h1 h2 =>
   cases i with
   | zero =>
    have e:=Option.some.inj hv
    subst e
    exact ⟨r,rfl,h1⟩
   | succ i=>exact j_c h2 i v hv
theorem i_w{X:Cx}(hc:X.calm=true)(hu:X.A.units+64<cLine):CallR X (.type "set") tSetI:=by
 intro pins s σ H xs us Q I r h
 obtain ⟨p,ks,rfl,hp,hl,q⟩:=h
 obtain ⟨u,rfl,ru⟩:=vals1 r
 cases ru
 obtain ⟨its,rv,pl,hz⟩:=I.list (SqL.of hp)
 have hlen:its.length=ks.length:=by rw [<-rv.length,List.length_map]
 refine q_r (knd:=mixKind X.prog X.w) (ks:=ks.map Sum.inl) (d0:=.inr "") (I.ok.hd hc) (by lia) pl.isList (by rw [List.size_toArray,hlen,List.length_map]) (by rw [List.size_toArray,hlen];exact hl) (fun i v hv=>?_) fun h' tk hto hS hk=>?_
 ·have hv':its[i]? = some v:=by simpa using hv
  obtain ⟨x,hx,hr⟩:=j_c rv i v hv'
  obtain ⟨t,rfl⟩:=hr
  rw [List.getD_eq_getElem?_getD,List.getElem?_map,hx]
  exact ⟨o_o (k:=.inl x) ⟨t,rfl⟩,rfl⟩
 ·have hsz:its.toArray.size=ks.length:=by rw [List.size_toArray,hlen]
  rw [hsz] at hS
  obtain ⟨o,es,ep,t,h1,h2,h3,_,_,_,h4,h5⟩:=hS
  have hle:=j_a (ks.map (Sum.inl:Int->Key)) (.inr "") ks.length
  exact ⟨.ref s.heap.objs.size,_,I.laid (a:=s.heap.objs.size) (o:=STO s.heap.objs.size (ucI ks)) hk (Nat.le_refl _) ⟨⟨Nat.lt_of_le_of_lt hle hl,o,es,ep,t,h1,h2,h3,h4,h5⟩,⟨o,h1⟩,f_b⟩,rfl,q _ (I.hok.fresh (Nat.le_refl _))⟩
def tSortI(xs:List V)(H:Hp)(Q:VK):Prop:=∃ (p:Addr) (ns:List Int),xs=[.ref p]/\H p=some (.lst (ns.map V.int))/\ns.length<64/\∀ (a:Addr) (ns':List Int),H a=none->ns'.Perm ns->ns'.Pairwise (· <= ·)->Q (.ref a) (upd H a (.lst (ns'.map V.int)))
theorem j_i{X:Cx}:CallR X (.builtin "sorted") tSortI:=by
 intro pins s σ H xs us Q I r h
 obtain ⟨p,ns,rfl,hp,hl,q⟩:=h
 obtain ⟨u,rfl,ru⟩:=vals1 r
 cases ru
 obtain ⟨its,rv,pl,hz⟩:=I.list (SqL.of hp)
 have hlen:its.length=ns.length:=by rw [<-rv.length,List.length_map]
 have hi:=j_q rv
 refine PyProof.Rows.sorted_ints pl.isList hi (by lia) fun out ns' ha hpm hpw=>?_
 have hl':ns'.length=ns.length:=hpm.length_eq
 have rv':=q_d ha
 refine ⟨.ref (s.heap.objs.size+1),_,I.laid (a:=s.heap.objs.size+1) (o:=.lst (ns'.map V.int)) (t':=s.toks) (fun b u e=>PyProof.Rows.sortedAll_old e) (Nat.le_succ _) ⟨?_,?_⟩,rfl,q _ ns' (I.hok.fresh (Nat.le_succ _)) hpm hpw⟩
 ·rw [List.length_map]
  exact Nat.le_of_lt (y_b (by lia))
 ·obtain ⟨n,hn⟩:=PyProof.Rows.sortedAll_at s.heap its out
  refine ⟨out.toList,n,rv',?_⟩
  exact hn
def bt(X i:Nat):Nat:=X/2^i%2
open PySem PySem.Spec PyProof.Rows
end L2
namespace L2
open PySem PySem.Spec PyProof.Rows PySem.SeqAt MeetsSeq MeetsSeq2 MeetsSeq3
open AutoSeq1 (wpAny_loadPart')
end L2
namespace L2
open PySem PySem.Spec PyProof.Rows PySem.SeqAt MeetsSeq MeetsSeq2 MeetsSeq3
open AutoSeq1 (wpAny_loadPart')
open PySem PySem.Spec PyProof.Rows
def Ite(K : PySem.W.Frag)(a : Addr) : It :=
  ⟨fun i H => ∃ xs x, SqL K H a xs /\ xs[i]? = some x,
   fun i H v H' => ∃ p x, v = .ref p /\ H p = none /\ H' = upd H p (.tup [.int (i : Int), x]) /\ ∀ xs, SqL K H a xs -> xs[i]? = some x,
   fun i H => ∃ xs, SqL K H a xs /\ xs.length <= i⟩
theorem f_q{P:Program}{w:World}{K:PySem.W.Frag}{elts:List Expr}{kk:Nat}{pos:Pos}(a e it:Addr)(hne:e≠it) :
  Turn P w K (.Tuple elts kk pos) (Ite K a) [e,it] e (fun i h=>(∃ old,IsEnum h e it (i:Int) old)/\h.IsListIter it a i) where
 mem:=by simp
 obj:=fun i h st c hc=>by
  obtain ⟨⟨old,h1⟩,⟨o4,e4,c4,d4⟩⟩:=st
  have hc':c=e\/c=it:=by simpa using hc
  rcases hc' with rfl | rfl
  ·exact ⟨_,h1,fun v q=>by cases q⟩
  ·exact ⟨o4,e4,fun v q=>by rw [d4] at q;cases q⟩
 keep:=fun i h h' st k=>by
  obtain ⟨⟨old,h1⟩,h2⟩:=st
  exact ⟨⟨old,k e (by simp) _ h1⟩,h2.at fun o q=>k it (by simp) o q⟩
 item:=by
  intro X hP hw hK hc i pins s σ H E I hf st hg
  subst hP hw hK
  obtain ⟨xs,x,hq,hx⟩:=hg
  obtain ⟨its,rv,p1,hz1⟩:=I.list hq
  obtain ⟨u1,hu1,ru1⟩:=rv.get hx
  obtain ⟨⟨old,se⟩,si⟩:=st
  refine wpAny_pyNext_enum_item se si p1.isList (x:=u1) (by simpa using hu1) hne fun h' b1 b2 b3 b4 hk=>?_
  have lt:∀ {c o},s.heap.get? c=some o->c≠s.heap.objs.size:=fun z=>Nat.ne_of_lt (Heap.lt_size z)
  have I0:Inv X pins σ (upd H s.heap.objs.size (.tup [.int (i:Int),x])) { s with heap:=s.heap.push { cls:=.type "tuple",data:=.seq #[.int i s.toks,u1] },toks:=s.toks+1 } :=
   I.laid (a:=s.heap.objs.size) (o:=.tup [.int (i:Int),x]) (t':=s.toks+1) (fun b u z=>Heap.get?_push_of_some _ z) (Nat.le_refl _) ⟨zl2,[.int i s.toks,u1],.cons ⟨_,rfl⟩ (.cons ru1 .nil),_,Heap.get?_push_size _ rfl,rfl,_,rfl⟩
  have hnone:∀ c∈[e,it],(upd H s.heap.objs.size (.tup [.int (i:Int),x])) c=none:=fun c hc'=>by
   have hne':c≠s.heap.objs.size:=by
    have hc'':c=e\/c=it:=by simpa using hc'
    rcases hc'' with rfl | rfl
    ·exact lt se
    ·obtain ⟨_,z,_⟩:=si;exact lt z
   rw [z_r hne']
   exact (hf c hc').1
  have hf':∀ c∈[e,it],FpOk X pins (upd H s.heap.objs.size (.tup [.int (i:Int),x])) c:=fun c hc'=>⟨hnone c hc',(hf c hc').2⟩
  have kk1:∀ c o,c∉[e,it]->(s.heap.push { cls:=.type "tuple",data:=.seq #[.int i s.toks,u1] }).get? c=some o->h'.get? c=some o:=fun c o hn z=>by
   rcases Heap.get?_push_cases z with ⟨rfl,rfl⟩ | z'
   ·exact b3
   ·exact hk c o (fun q=>hn (by simp [q])) (fun q=>hn (by simp [q])) z'
  have I1:=I0.turnedL (h':=h') (t':=s.toks+1) (ch:=[e,it]) kk1 hf'
  refine ⟨_,rfl,wpAny_letOwnedTupleGo_enum b1 fun h2 c1 c2=>?_⟩
  have I2:=I1.turnedL (h':=h2) (t':=s.toks+1) (ch:=[e]) (fun c o hn z=>(c2.2 c (fun q=>hn (by simp [q]))).trans z) (fun c hc'=>hf' c (by rw [List.mem_singleton.mp hc'];simp))
  refine ⟨.ref s.heap.objs.size,_,I2,rfl,⟨_,x,rfl,I.hok.fresh (Nat.le_refl _),rfl,fun xs' q=>by rw [I.list_inj q hq];exact hx⟩,⟨⟨u1,?_⟩,b2.at fun o z=>(c2.2 it (Ne.symm hne)).trans z⟩,hnone⟩
  rw [show ((i+1:Nat):Int)=(i:Int)+1 by lia]
  exact c1
 done:=by
  intro X hP hw hK hc i pins s σ H E I hf st hg
  subst hP hw hK
  obtain ⟨xs,hq,hx⟩:=hg
  obtain ⟨its,rv,p1,hz1⟩:=I.list hq
  have l1:=rv.length
  obtain ⟨⟨old,se⟩,si⟩:=st
  obtain ⟨f0,f1,f2,f3,f4,f5⟩:=hf it (by simp)
  exact wpAny_pyNext_enum_end (I.ok.hd hc) se si p1.isList (by simp;lia) fun h' eb=>⟨rfl,I.turned (t':=s.toks) (fun b o hb z=>eb b o hb z) f0 f1 f3 f4 f5⟩
 self:=fun _ _ _ _ _ st h=>by
  obtain ⟨⟨old,h1⟩,_⟩:=st
  exact wpAny_pyIter_enum h1 h
def iEnum(K:PySem.W.Frag)(ta:TA):TI:=fun σ H R=>ta σ H fun vs H1=>∃ a,vs=[.ref a]/\(∃ xs,SqL K H1 a xs)/\R (Ite K a) H1
theorem l_g{X:Cx}{elts:List Expr}{kk:Nat}{tpos:Pos}{a:Expr}{ta:TA}{p pos:Pos}(hg:Gl X "enumerate")(hm:X.mg "enumerate" = none)(ha:PA X [a] ta)(hs:starEach [a] X.env=[(false,eval a X.env)]:=by rfl) :
  PI X (.Tuple elts kk tpos) (.Call (.Name "enumerate" p) [a] [] pos) (iEnum X.K ta):=by
 intro pins s σ H R I h
 refine Call_ (t_f I hg hm PyProof.Rows.boot_enumerate (PyProof.Rows.callWith_type1 (thn (ha pos pins s σ H _ I h) fun us s1 ⟨vs,H1,I1,r1,q1⟩=>?_) hs rfl))
 obtain ⟨l1,e,⟨xs,hq1⟩,q⟩:=q1
 subst e
 cases r1 with
 | cons r rr =>
  cases rr
  cases r
  obtain ⟨its1,rv1,p1,hz1⟩:=I1.list hq1
  refine call_enumerate_list p1.isList fun h' he hit hsz hk=>wpAny_pyIter_enum he ?_
  refine ⟨_,[s1.heap.objs.size+1,s1.heap.objs.size],_,_,H1,rfl,I1.kept (t':=s1.toks) hk,f_q l1 _ _ (Nat.succ_ne_self _),⟨⟨_,he⟩,hit⟩,fun c hc=>?_,q⟩
  have hc':c=s1.heap.objs.size+1\/c=s1.heap.objs.size:=by simpa using hc
  have hle : @LE.le Nat _ s1.heap.objs.size c:=by
   rcases hc' with rfl | rfl
   ·exact Nat.le_add_right _ _
   ·exact Nat.le_refl _
  exact I1.fpOk hle (I1.hok.fresh hle)
theorem for_enum{K:PySem.W.Frag}{a:Addr}{xs:List V}{g:TG}{tb:TS}{D:Ends}{σ:St}{H:Hp}(Pv:Nat->St->Hp->Prop)(h0:Pv 0 σ H)(hl:∀ i σ H,i<=xs.length->Pv i σ H->SqL K H a xs)
  (hs:∀ i x p σ H,xs[i]? = some x->Pv i σ H->H p=none->g (.ref p) σ (upd H p (.tup [.int (i:Int),x])) fun σ2 H2=>tb { D with nx:=Pv (i+1),ct:=Pv (i+1),bk:=D.nx } σ2 H2) (hd:∀ σ H,Pv xs.length σ H->D.nx σ H) :
  ∃ W:Nat->Nat->St->Hp->Prop,(∃ m,W 0 m σ H)/\∀ i m σ H,W i m σ H ->
   ((Ite K a).stop i H/\D.nx σ H)\/((Ite K a).go i H/\∃ N:St->Hp->Prop,(∀ σ' H',N σ' H'->∃ m',m'<m/\W (i+1) m' σ' H')/\∀ x H',(Ite K a).yld i H x H'->g x σ H' fun σ2 H2=>tb { D with nx:=N,ct:=N,bk:=D.nx } σ2 H2):=by
 refine ⟨fun i m σ H=>m=xs.length-i/\i<=xs.length/\Pv i σ H,⟨xs.length,by simp,Nat.zero_le _,h0⟩,?_⟩
 rintro i m σ H ⟨rfl,hi,p⟩
 have q1:=hl i σ H hi p
 by_cases hlt:i<xs.length
 ·refine .inr ⟨⟨xs,xs[i],q1,by simp [hlt]⟩,Pv (i+1),fun σ' H' p'=>⟨xs.length-(i+1),by lia,rfl,hlt,p'⟩,fun v H' y=>?_⟩
  obtain ⟨pp,x,rfl,hp,rfl,e1⟩:=y
  exact hs i x pp σ H (e1 xs q1) p hp
 ·have e:i=xs.length:=by lia
  subst e
  exact .inl ⟨⟨xs,q1,Nat.le_refl _⟩,hd σ H p⟩
open PySem
theorem l_h{X:Cx}{tg it:Expr}{w1 w2:TI}(h1:PI X tg it w1)(h2:PI X tg it w2):PI X tg it (fun σ H R=>w1 σ H R\/w2 σ H R):=by
 intro pins s σ H R I h
 rcases h with h | h
 ·exact h1 pins s σ H R I h
 ·exact h2 pins s σ H R I h
theorem comp_zip{K:PySem.W.Frag}{n:Nat}{c:St}{g:TG}{tt:TT}{te:TE}{H:Hp}{Fin:List V->Hp->Prop}{a b:Addr}{xs us:List V}(Pv:Nat->List V->Hp->Prop)(h0:Pv 0 [] H)(hl:∀ i ys H,i<=xs.length->Pv i ys H->SqL K H a xs/\SqL K H b us)(he:xs.length=us.length)(hz:∀ i ys H,i<xs.length->Pv i ys H->ys.length<sizeLine)
  (hs:∀ i x y p ys H (os:St),os.length=n->xs[i]? = some x->us[i]? = some y->Pv i ys H->H p=none->g (.ref p) (os++c) (upd H p (.tup [x,y])) fun σ2 H2=>tt σ2 H2 fun b H3=>if b=true then te σ2 H3 fun y H4=>Pv (i+1) (ys++[y]) H4 else Pv (i+1) ys H3)
  (hd:∀ ys H,Pv xs.length ys H->Fin ys H):CompG (Itz K a b) n c g tt te H Fin:=by
 refine ⟨fun i m ys H=>m=xs.length-i/\i<=xs.length/\Pv i ys H,⟨xs.length,by simp,Nat.zero_le _,h0⟩,?_⟩
 rintro i m ys H ⟨rfl,hi,p⟩
 obtain ⟨q1,q2⟩:=hl i ys H hi p
 by_cases hlt:i<xs.length
 ·have hlt2:i<us.length:=by lia
  refine .inr ⟨⟨xs,us,xs[i],us[i],q1,q2,by simp [hlt],by simp [hlt2]⟩,hz i ys H hlt p,Pv (i+1),fun ys' H' p'=>⟨xs.length-(i+1),by lia,rfl,hlt,p'⟩,fun v H' y os hos=>?_⟩
  obtain ⟨pp,x,y,rfl,hp,rfl,e1,e2⟩:=y
  exact hs i x y pp ys H os hos (e1 xs q1) (e2 us q2) p hp
 ·have e:i=xs.length:=by lia
  subst e
  exact .inl ⟨⟨xs,us,q1,q2,.inl (Nat.le_refl _)⟩,hd ys H p⟩
def leF(ins m tot box gate e:Int):Int:=if ins+m<e/2 then 2*(ins+tot+gate+e/2-ins-m)+e%2 else if ins<e/2 then 2*(e/2+box)+e%2 else 2*(e/2)+e%2
def F1(A B:Wk)(e:Int):Int:=leF A.ins A.boxes.length (A.boxes.length+B.boxes.length) 0 0 e
def F2(A B:Wk)(e:Int):Int:=leF A.ins B.boxes.length (A.boxes.length+B.boxes.length) A.boxes.length A.gates.length e
def two(A B:Wk):List (Wk×(Int->Int)):=[(A,F1 A B),(B,F2 A B)]
def bx(l:List (Wk×(Int->Int))):List (Int×Int):=l.flatMap fun p=>p.1.boxes.map fun q=>(q.1,p.2 q.2)
def gt(l:List (Wk×(Int->Int))):List (Int×Int):=l.flatMap fun p=>p.1.gates.map fun q=>(p.2 q.1,p.2 q.2)
def ot(l:List (Wk×(Int->Int))):List Int:=l.flatMap fun p=>p.1.outs.map p.2
def bes(A B:Wk):Wk:=⟨A.ins,bx (two A B),gt (two A B),ot (two A B)⟩
def u_v:Sp:=fun vs H Q _=>∃ (w b g o w' b' g' o':Addr) (A B:Wk) (e:Int),vs=[.ref w,.ref w',.int e]/\IsWkA H w b g o A/\IsWkA H w' b' g' o' B/\Q (.int (F1 A B e)) H
def u_f:Sp:=fun vs H Q _=>∃ (w b g o w' b' g' o':Addr) (A B:Wk) (e:Int),vs=[.ref w,.ref w',.int e]/\IsWkA H w b g o A/\IsWkA H w' b' g' o' B/\A.ins=B.ins/\Q (.int (F2 A B e)) H
def n_y:Sp:=fun vs H Q _=>∃ (w b g o w' b' g' o':Addr) (A B:Wk),vs=[.ref w,.ref w']/\IsWkA H w b g o A/\IsWkA H w' b' g' o' B/\A.Ok/\B.Ok/\A.ins=B.ins /\
 ∀ p q r t H',H p=none->H q=none->H r=none->H t=none->q≠r->q≠t->r≠t->Same H H'->IsWkA H' p q r t (bes A B)->Q (.ref p) H'
def nB(A B:Wk):Nat:=1+A.ins+(A.boxes.length+B.boxes.length)+(A.gates.length+B.gates.length)
theorem x_p(A B:Wk):(bes A B).boxes.length=A.boxes.length+B.boxes.length:=by
 show (bx (two A B)).length=_
 unfold bx two
 simp [List.flatMap_cons]
theorem w_t(A B:Wk):(bes A B).gates.length=A.gates.length+B.gates.length:=by
 show (gt (two A B)).length=_
 unfold gt two
 simp [List.flatMap_cons]
theorem F1_bound{A B:Wk}{e:Int}(h0:0<=e)(h:e<2*(A.knots:Int)):0<=F1 A B e/\F1 A B e<2*(nB A B:Int):=by
 have hk:(A.knots:Int)=1+A.ins+A.boxes.length+A.gates.length:=by show ((1+A.ins+A.boxes.length+A.gates.length:Nat):Int)=_;lia
 unfold F1 leF nB
 split
 ·lia
 ·split<;>lia
theorem F2_bound{A B:Wk}(hi:A.ins=B.ins){e:Int}(h0:0<=e)(h:e<2*(B.knots:Int)):0<=F2 A B e/\F2 A B e<2*(nB A B:Int):=by
 have hk:(B.knots:Int)=1+B.ins+B.boxes.length+B.gates.length:=by show ((1+B.ins+B.boxes.length+B.gates.length:Nat):Int)=_;lia
 unfold F2 leF nB
 split
 ·lia
 ·split<;>lia
abbrev KN:PySem.W.Frag:=[]
theorem SqL.up{K:PySem.W.Frag}{H:Hp}{a:Addr}{xs:List V}(h:SqL KN H a xs):SqL K H a xs:=by
 rcases h with h | ⟨o,_,_,e,_⟩
 ·exact .inl h
 ·exact nomatch (show (none:Option Obj)=some o from e)
theorem SqT.up{K:PySem.W.Frag}{H:Hp}{a:Addr}{xs:List V}(h:SqT KN H a xs):SqT K H a xs:=by
 rcases h with h | ⟨o,_,_,e,_⟩
 ·exact .inl h
 ·exact nomatch (show (none:Option Obj)=some o from e)
section
variable {X:Cx}
theorem ix_list0:IxR X (rIxL KN):=fun va sl pins s σ H x y v u Q I rx ry ⟨p,xs,i,z,e1,e2,hq,r⟩ hs=>u_a va sl pins s σ H x y v u Q I rx ry ⟨p,xs,i,z,e1,e2,hq.up,r⟩ hs
theorem ix_tup0:IxR X (rIxT KN):=fun va sl pins s σ H x y v u Q I rx ry ⟨p,xs,i,z,e1,e2,hq,r⟩ hs=>t_e va sl pins s σ H x y v u Q I rx ry ⟨p,xs,i,z,e1,e2,hq.up,r⟩ hs
theorem h_o:IxR X (rIx KN):=ix_list0.or (ix_tup0.or ix_str)
theorem k_s:SlR X (rSlL KN):=fun pins s σ H x v vl vu lo hi sl Q I rx hs pl pu ⟨a,xs,e,hq,r⟩=>sl_list pins s σ H x v vl vu lo hi sl Q I rx hs pl pu ⟨a,xs,e,hq.up,r⟩
theorem LenV.up{K:PySem.W.Frag}{x:V}{H:Hp}{n:Nat}(h:LenV KN x H n):LenV K x H n:=by
 cases x with
 | ref p =>
  rcases (show (∃ xs,SqL KN H p xs/\n=xs.length)\/∃ xs,SqT KN H p xs/\n=xs.length from h) with ⟨xs,a,b⟩ | ⟨xs,a,b⟩
  ·exact .inl ⟨xs,a.up,b⟩
  ·exact .inr ⟨xs,a.up,b⟩
 | _=>exact h
theorem TruV.up{K:PySem.W.Frag}{x:V}{H:Hp}{k:Bool}(h:TruV KN x H k):TruV K x H k:=by
 cases x with
 | ref p =>
  rcases (show (∃ xs,SqL KN H p xs/\k = !xs.isEmpty)\/(∃ xs,SqT KN H p xs/\k = !xs.isEmpty)\/∃ kvs,H p=some (.dK kvs)/\k = !kvs.isEmpty from h) with ⟨xs,a,b⟩ | ⟨xs,a,b⟩ | c
  ·exact .inl ⟨xs,a.up,b⟩
  ·exact .inr (.inl ⟨xs,a.up,b⟩)
  ·exact .inr (.inr c)
 | _=>exact h
theorem z_s:CallR X (.builtin "len") (fun xs H Q=>∃ x n,xs=[x]/\LenV KN x H n/\Q (.int n) H):=fun pins s σ H xs us Q I r ⟨x,n,e,l,q⟩=>u_x pins s σ H xs us Q I r ⟨x,n,e,l.up,q⟩
theorem v_y:CallR X (.type "list") (fun xs H Q=>∃ p ys,xs=[.ref p]/\(SqL KN H p ys\/SqT KN H p ys)/\∀ l,H l=none->Q (.ref l) (upd H l (.lst ys))):=fun pins s σ H xs us Q I r ⟨p,ys,e,l,q⟩ =>
 u_j pins s σ H xs us Q I r ⟨p,ys,e,l.imp (·.up) (·.up),q⟩
theorem q_f:CallR X (.type "tuple") (fun xs H Q=>∃ p ys,xs=[.ref p]/\((SqL KN H p ys/\∀ l,H l=none->Q (.ref l) (upd H l (.tup ys)))\/(SqT KN H p ys/\Q (.ref p) H))):=fun pins s σ H xs us Q I r ⟨p,ys,e,l⟩ =>
 w_p pins s σ H xs us Q I r ⟨p,ys,e,l.imp (fun z=>⟨z.1.up,z.2⟩) fun z=>⟨z.1.up,z.2⟩⟩
theorem o_c:CallR X (.builtin "all") (fun xs H Q=>X.calm=true/\∃ (p:Addr) (bs:List Bool),xs=[.ref p]/\SqL KN H p (bs.map V.bl)/\Q (.bl (bs.all id)) H):=fun pins s σ H xs us Q I r ⟨c,p,bs,e,l,q⟩ =>
 call_all pins s σ H xs us Q I r ⟨c,p,bs,e,l.up,q⟩
theorem t_p:OpR X (compareOp .NotIn) (rIn KN true):=fun pins s σ H x y v u Q I rx ry ⟨p,xs,e,l,q⟩=>n_f pins s σ H x y v u Q I rx ry ⟨p,xs,e,l.imp (·.up) (·.up),q⟩
theorem Turn.up{P:Program}{w:World}{K:PySem.W.Frag}{tg:Expr}{J J':It}{fp:List Addr}{it:Addr}{tn:Nat->Heap->Prop}(t:Turn P w K tg J fp it tn)(g:∀ i H,J'.go i H->J.go i H)(d:∀ i H,J'.stop i H->J.stop i H)
  (y:∀ i H x H',J.yld i H x H'->J'.yld i H x H'):Turn P w K tg J' fp it tn where
 mem:=t.mem
 obj:=t.obj
 keep:=t.keep
 item:=fun X a b c e i pins s σ H E I f n q=>thn (t.item X a b c e i pins s σ H E I f n (g _ _ q)) fun r s1 ⟨u,h1,h2⟩=>⟨u,h1,thn h2 fun _ s2 ⟨x,H',I',r',y',z⟩=>⟨x,H',I',r',y _ _ _ _ y',z⟩⟩
 done:=fun X a b c e i pins s σ H E I f n q=>t.done X a b c e i pins s σ H E I f n (d _ _ q)
 self:=t.self
def cl(t:TE):TE:=fun σ H Q=>∃ R,t σ H R/\∀ x H',R x H'->Q x H'
def cla(t:TA):TA:=fun σ H Q=>∃ R,t σ H R/\∀ x H',R x H'->Q x H'
theorem PE.cl{e:Expr}{t:TE}(h:PE X e t):PE X e (cl t):=fun pins s σ H Q I ⟨R,q,m⟩=>thn (h pins s σ H R I q) fun v s' ⟨x,H',I',r,z⟩=>⟨x,H',I',r,m _ _ z⟩
theorem PA.cl{es:List Expr}{t:TA}(h:PA X es t):PA X es (cla t):=fun pos pins s σ H Q I ⟨R,q,m⟩=>thn (h pos pins s σ H R I q) fun v s' ⟨x,H',I',r,z⟩=>⟨x,H',I',r,m _ _ z⟩
theorem PE.wk0{e:Expr}{t t':TE}(h:PE X e t)(m:∀ σ H Q,t' σ H Q->t σ H Q):PE X e t':=fun pins s σ H Q I q=>h pins s σ H Q I (m _ _ _ q)
theorem PI.weak{tg l:Expr}{wi wi':TI}(h:PI X tg l wi)
  (m:∀ σ H R,wi' σ H R->wi σ H fun J0 H1=>∃ J1,((∀ i H,J1.go i H->J0.go i H)/\(∀ i H,J1.stop i H->J0.stop i H)/\∀ i H x H',J0.yld i H x H'->J1.yld i H x H')/\R J1 H1):PI X tg l wi':=fun pins s σ H R I q =>
 thn (h pins s σ H _ I (m _ _ _ q)) fun v s1 z=>thn z fun itv s2 z=>by
  obtain ⟨it,fp,tn,J,H',e,I',t,n,f,J1,⟨g,d,y⟩,r⟩:=z
  exact ⟨it,fp,tn,J1,H',e,I',t.up g d y,n,f,r⟩
theorem y_d{tg l:Expr}{tl:TE}(hl:PE X l tl):PI X tg l (iList KN tl):=(g_n hl.cl).weak fun σ H R q=>⟨_,q,fun x H1 ⟨a,e,⟨xs,z⟩,r⟩=>⟨a,e,⟨xs,z.up⟩,Itl KN a,
 ⟨fun i H ⟨xs,x,u,v⟩=>⟨xs,x,u.up,v⟩,fun i H ⟨xs,u,v⟩=>⟨xs,u.up,v⟩,fun i H x H' ⟨u,v⟩=>⟨u,fun xs z=>v xs z.up⟩⟩,r⟩⟩
theorem v_j{tg l:Expr}{tl:TE}(hl:PE X l tl):PI X tg l (iTup KN tl):=(g_q hl.cl).weak fun σ H R q=>⟨_,q,fun x H1 ⟨a,e,⟨xs,z⟩,r⟩=>⟨a,e,⟨xs,z.up⟩,Itt KN a,
 ⟨fun i H ⟨xs,x,u,v⟩=>⟨xs,x,u.up,v⟩,fun i H ⟨xs,u,v⟩=>⟨xs,u.up,v⟩,fun i H x H' ⟨u,v⟩=>⟨u,fun xs z=>v xs z.up⟩⟩,r⟩⟩
theorem g_r{elts:List Expr}{kk:Nat}{tpos:Pos}{a b:Expr}{ta:TA}{p pos:Pos}(hg:Gl X "zip")(hm:X.mg "zip" = none)(ha:PA X [a,b] ta)(hs:starEach [a,b] X.env=[(false,eval a X.env),(false,eval b X.env)]:=by rfl)(hs2:starEach [b] X.env=[(false,eval b X.env)]:=by rfl) :
  PI X (.Tuple elts kk tpos) (.Call (.Name "zip" p) [a,b] [] pos) (iZip KN ta):=(pi_zip hg hm ha.cl hs hs2).weak fun σ H R q=>⟨_,q,fun x H1 ⟨a,b,e,⟨xs,z⟩,⟨ys,z'⟩,r⟩=>⟨a,b,e,⟨xs,z.up⟩,⟨ys,z'.up⟩,Itz KN a b,
 ⟨fun i H ⟨xs,ys,x,y,u,u',v⟩=>⟨xs,ys,x,y,u.up,u'.up,v⟩,fun i H ⟨xs,ys,u,u',v⟩=>⟨xs,ys,u.up,u'.up,v⟩,fun i H x H' ⟨p,x',y',u,v,w,f,g⟩=>⟨p,x',y',u,v,w,fun xs z=>f xs z.up,fun ys z=>g ys z.up⟩⟩,r⟩⟩
theorem y_w{a:Expr}{ta:TE}(ha:PE X a ta)(he:∀ whole,isTrue a X.env whole=(do let v <-whole;standAt a.pos;holding [v] (truthy v))) :
  PT X a (fun σ H Q=>ta σ H fun x H'=>∃ k,TruV KN x H' k/\Q k H'):=fun pins s σ H Q I q=>k_l ha.cl he pins s σ H Q I ⟨_,q,fun x H' ⟨k,t,z⟩=>⟨k,t.up,z⟩⟩
theorem tyV.up{K:PySem.W.Frag}{T:String}{x:V}{H:Hp}(h:tyV KN T x H):tyV K T x H:=by
 cases x with
 | ref p =>
  rcases (show (T = "list" /\ ∃ xs,SqL KN H p xs)\/(T = "tuple" /\ ∃ o,KN.lookup p=some o/\o.cls = .type "tuple" /\ o.dict=none)\/(T = "dict" /\ ((∃ kvs,H p=some (.dK kvs))\/∃ kvs,H p=some (.dT kvs)))\/(T = "set" /\ ∃ S n,H p=some (.set S n)) from h) with ⟨a,xs,b⟩ | ⟨_,o,e,_⟩ | c
  ·exact .inl ⟨a,xs,b.up⟩
  ·exact nomatch (show (none:Option Obj)=some o from e)
  ·exact .inr (.inr c)
 | _=>exact h
variable {o e:Expr} {es:List Expr} {to:TE} {t:TA} {name:Str} {apos cpos:Pos} {T id:String} {r:V->List V->Hp->VK->Prop}
theorem pe_bm00(pa:PlainAttrs T)(slot:Slot T name id)(hty:typeOf (.builtin id)=pure (.type "method_descriptor"))(hm:MtR X id r)(ho:PE X o to)
  (hbase:attributeBase o name X.env (eval o X.env)=eval o X.env:=by rfl) (hline:(apos.endLine == cpos.line)=true:=by rfl):PE X (.Call (.Attribute o name apos) [] [] cpos) (tBM0 KN T r to) :=
 (pe_bm0 pa slot hty hm ho.cl hbase hline).wk0 fun σ H Q q=>⟨_,q,fun x H1 z=>⟨z.1.up,z.2⟩⟩
theorem w_u(pa:PlainAttrs T)(slot:Slot T name id)(hty:typeOf (.builtin id)=pure (.type "method_descriptor"))(hm:MtR X id r)(ho:PE X o to)(ha:PA X (e::es) t)
  (hbase:attributeBase o name X.env (eval o X.env)=eval o X.env:=by rfl)
  (hfew:((backTo cpos (starEach (e::es) X.env)).all (fun x=>!x.1)&&(backToKw cpos (keywordEach [] X.env)).all (fun x=>x.1.isSome)
   && decide ((e::es).length+([]:List Keyword).length+(if ([]:List Keyword).isEmpty then 0 else 1)<30))=true:=by rfl)
  (hline:(apos.endLine == cpos.line)=true:=by rfl) (hs:starEach (e::es) X.env=(false,eval e X.env)::starEach es X.env:=by rfl) (hplain:(backTo cpos (starEach es X.env)).any (·.1)=false:=by rfl) :
  PE X (.Call (.Attribute o name apos) (e::es) [] cpos) (tBM KN T r to t):=(pe_bm pa slot hty hm ho.cl ha hbase hfew hline hs hplain).wk0 fun σ H Q q=>⟨_,q,fun x H1 z=>⟨z.1.up,z.2⟩⟩
theorem y_x{pos:Pos}{es:List Expr}{k:Nat}{t:TGs}{n:Nat}(hc:X.calm=true)(h:PGs X es t)
  (hn:(assignEach es X.env).length=n:=by rfl) (hst:(assignEach es X.env).findIdx? (·.1)=none:=by rfl):PG X (.Tuple es k pos) (gTup KN n t):=fun pins s σ H v u Q I r ⟨a,xs,e,hq,z⟩=>k_j hc h hn hst pins s σ H v u Q I r ⟨a,xs,e,hq.up,z⟩
end
theorem w_n{P:List Value->Prop}{n:Nat}(h:∀ a us,us.length=n->P (a::us)):∀ us:List Value,us.length=n+1->P us
 | [],e=>nomatch e
 | a::us,e=>h a us (Nat.succ.inj e)
theorem h_s{P:List Value->Prop}(h:P []):∀ us:List Value,us.length=0->P us
 | [],_=>h
 | _::_,e=>nomatch e
def onI(f:Int->Int):V->V
 | .int e=>.int (f e)
 | v=>v
end L2
namespace L2
open PySem PySem.Spec PyProof.Rows
end L2
namespace L2
open PySem PySem.Spec PyProof.Rows
end L2
namespace L2
open PySem PySem.Spec PyProof.Rows
end L2
namespace L2
open PySem PySem.Spec PyProof.Rows
end L2
namespace L2
open PySem PySem.Spec PyProof.Rows
def sdL(n:Nat):List Nat:=(List.range n).map fun k=>(((List.range (2^n)).filter fun s=>decide (bt s k=1)).map fun s=>2^s).sum
theorem p_p{n:Nat}:(sdL n).length=n:=by unfold sdL;simp
theorem p_v(m:Nat):((List.range m).map fun s=>2^s).sum=2^m-1:=by
 induction m with
 | zero=>rfl
 | succ m ih =>
  rw [List.range_succ,List.map_append,List.sum_append,ih]
  have:=Nat.one_le_two_pow (n:=m)
  simp only [List.map_cons,List.map_nil,List.sum_cons,List.sum_nil,Nat.pow_succ]
  lia
theorem n_j(n:Nat):List.range (2^(n+1))=List.range (2^n)++(List.range (2^n)).map (2^n + ·):=by
 rw [Nat.pow_succ,Nat.mul_two,List.range_add]
theorem bt_add{n k s:Nat}(h:k<n):bt (2^n+s) k=bt s k:=by
 unfold bt
 obtain ⟨d,rfl⟩:∃ d,n=k+1+d:=⟨n-(k+1),by lia⟩
 have e:2^(k+1+d)=2^k*(2*2^d):=by rw [Nat.pow_add,Nat.pow_add];simp [Nat.mul_assoc]
 rw [e,Nat.mul_add_div (Nat.two_pow_pos k),Nat.mul_add_mod]
theorem bt_below{n s:Nat}(h:s<2^n):bt s n=0:=by unfold bt;rw [Nat.div_eq_of_lt h]
theorem bt_top{n s:Nat}(h:s<2^n):bt (2^n+s) n=1:=by
 unfold bt
 rw [Nat.add_div_left _ (Nat.two_pow_pos n),Nat.div_eq_of_lt h]
theorem r_j(m:Nat)(l:List Nat):(l.map fun s=>2^(m+s)).sum=2^m*(l.map fun s=>2^s).sum:=by
 induction l with
 | nil=>simp
 | cons a l ih =>
  rw [List.map_cons,List.sum_cons,ih,List.map_cons,List.sum_cons,Nat.pow_add,Nat.mul_add]
theorem sdL_succ(n:Nat):sdL (n+1)=(sdL n).map (fun x=>x*(2^2^n+1))++[(2^2^n-1)*2^2^n]:=by
 unfold sdL
 rw [List.range_succ,List.map_append,List.map_map,List.map_cons,List.map_nil]
 refine congr (congrArg _ (List.map_congr_left fun k hk=>?_)) (congrArg (· :: []) ?_)
 ·have hk':=List.mem_range.mp hk
  rw [n_j,List.filter_append,List.map_append,List.sum_append,List.filter_map,List.map_map]
  have e:((fun s=>decide (bt s k=1)) ∘ fun x=>2^n+x)=fun s=>decide (bt s k=1):=funext fun s=>by
   show decide (bt (2^n+s) k=1)=_
   rw [bt_add hk']
  rw [e]
  show _+(List.map (fun s=>2^(2^n+s)) _).sum=_*_
  rw [r_j,Nat.mul_add,Nat.mul_one,Nat.mul_comm (2^2^n),Nat.add_comm]
 ·rw [n_j,List.filter_append,List.map_append,List.sum_append,List.filter_map,List.map_map]
  have e1:(List.range (2^n)).filter (fun s=>decide (bt s n=1))=[]:=List.filter_eq_nil_iff.mpr fun s hs=>by rw [bt_below (List.mem_range.mp hs)];decide
  have e2:(List.range (2^n)).filter ((fun s=>decide (bt s n=1)) ∘ fun x=>2^n+x)=List.range (2^n):=List.filter_eq_self.mpr fun s hs=>by
   show decide (bt (2^n+s) n=1)=true
   rw [bt_top (List.mem_range.mp hs)];decide
  rw [e1,e2]
  show 0+(List.map (fun s=>2^(2^n+s)) _).sum=_
  rw [r_j,p_v,Nat.zero_add,Nat.mul_comm]
theorem g_i(n:Nat):(2^2^n-1)*(2^2^n+1)=2^2^(n+1)-1:=by
 have h:=Nat.one_le_two_pow (n:=2^n)
 rw [Nat.pow_succ 2 n,Nat.mul_two,Nat.pow_add,Nat.mul_add,Nat.mul_one,Nat.sub_mul,Nat.one_mul]
 generalize 2^2^n=x at h
 have:x<=x*x:=Nat.le_mul_of_pos_left x h
 lia
theorem sq_succ(n:Nat):2^2^n*2^2^n=2^2^(n+1):=by rw [<-Nat.pow_add,<-Nat.mul_two,<-Nat.pow_succ]
def t_y:Sp:=fun vs H Q _=>∃ n:Nat,vs=[.int (n:Int)]/\n<=6/\∀ p q H',H p=none->H q=none->Same H H'->H' p=some (.tup [.ref q,.int ((2^2^n-1:Nat):Int)])->H' q=some (.lst ((sdL n).map fun x=>.int ((x:Nat):Int)))->Q (.ref p) H'
theorem o_v{α:Type}[DecidableEq α]:∀ {xs ys:List α},xs.Nodup->(∀ x∈xs,x∈ys)->xs.length<=ys.length
 | [],_,_,_=>Nat.zero_le _
 | x::xs,ys,h,hs=>by
  have hx:=hs x List.mem_cons_self
  have h1:=o_v (xs:=xs) (ys:=ys.erase x) (List.nodup_cons.mp h).2 fun y hy=>(List.mem_erase_of_ne (show y≠x from fun e=>(List.nodup_cons.mp h).1 (by rw [<-e];exact hy))).mpr (hs y (List.mem_cons_of_mem _ hy))
  have h2:=List.length_erase_of_mem hx
  have h3:0<ys.length:=List.length_pos_of_mem hx
  rw [List.length_cons]
  lia
open PySem
def bothO:Option Nat->Option Nat->Option Nat
 | some x,some y=>some (x&&&y)
 | _,_=>none
def rhsV(giv:Nat->Option Nat)(L:Nat)(gs:List (Nat×Nat))(hi:Nat)(V:Nat->Option Nat)(e:Nat):Option Nat :=
 match giv e with
 | some w=>some w
 | none=>if L<e/2 then (if e%2=1 then (V (e-1)).map (hi ^^^ ·) else match gs[e/2-L-1]? with
  | some p=>bothO (V p.1) (V p.2)
  | none=>none) else none
def GtO(L:Nat)(gs:List (Nat×Nat)):Prop:=∀ (k:Nat) (p:Nat×Nat),gs[k]? = some p->p.1<2*(1+L+k)/\p.2<2*(1+L+k)
def fvF(giv:Nat->Option Nat)(L:Nat)(gs:List (Nat×Nat))(hi:Nat):Nat->Nat->Option Nat
 | 0,_=>none
 | k+1,e=>rhsV giv L gs hi (fvF giv L gs hi k) e
section
variable {giv:Nat->Option Nat} {L:Nat} {gs:List (Nat×Nat)} {hi:Nat}
theorem n_m(hg:GtO L gs){V V':Nat->Option Nat}{e:Nat}(h:∀ d,d<e->V d=V' d):rhsV giv L gs hi V e=rhsV giv L gs hi V' e:=by
 unfold rhsV
 cases giv e with
 | some w=>rfl
 | none =>
  by_cases c:L<e/2
  ·simp only [if_pos c]
   by_cases d:e%2=1
   ·simp only [if_pos d]
    rw [h (e-1) (by lia)]
   ·simp only [if_neg d]
    cases hq:gs[e/2-L-1]? with
    | none=>rfl
    | some p =>
     obtain ⟨h1,h2⟩:=hg _ _ hq
     show bothO (V p.1) (V p.2)=bothO (V' p.1) (V' p.2)
     rw [h p.1 (by lia),h p.2 (by lia)]
  ·simp only [if_neg c]
theorem m_o(hg:GtO L gs):∀ {k e:Nat},e<k->fvF giv L gs hi k e=fvF giv L gs hi (e+1) e
 | 0,e,h=>absurd h (Nat.not_lt_zero _)
 | k+1,e,h=>by
  show rhsV giv L gs hi (fvF giv L gs hi k) e=rhsV giv L gs hi (fvF giv L gs hi e) e
  exact n_m hg fun d hd=>by
   rw [m_o hg (show d<k by lia),m_o hg (show d<e from hd)]
def gvW(giv:Nat->Option Nat)(L:Nat)(gs:List (Nat×Nat))(hi e:Nat):Option Nat:=fvF giv L gs hi (e+1) e
theorem k_b(hg:GtO L gs)(e:Nat):gvW giv L gs hi e=rhsV giv L gs hi (gvW giv L gs hi) e:=by
 show rhsV giv L gs hi (fvF giv L gs hi e) e=_
 exact n_m hg fun d hd=>m_o hg hd
theorem h_j(hg:GtO L gs){e w:Nat}(h:giv e=some w):gvW giv L gs hi e=some w:=by
 rw [k_b hg]
 unfold rhsV
 rw [h]
theorem gvW_low(hg:GtO L gs){e:Nat}(h:giv e=none)(hl:¬L<e/2):gvW giv L gs hi e=none:=by
 rw [k_b hg]
 unfold rhsV
 rw [h]
 simp only [if_neg hl]
theorem gvW_odd(hg:GtO L gs){e:Nat}(h:giv e=none)(hl:L<e/2)(ho:e%2=1):gvW giv L gs hi e=(gvW giv L gs hi (e-1)).map (hi ^^^ ·):=by
 rw [k_b hg]
 unfold rhsV
 rw [h]
 simp only [if_pos hl,if_pos ho]
theorem q_u(hg:GtO L gs){e:Nat}{p:Nat×Nat}(h:giv e=none)(hl:L<e/2)(ho:¬e%2=1)(hp:gs[e/2-L-1]? = some p):gvW giv L gs hi e=bothO (gvW giv L gs hi p.1) (gvW giv L gs hi p.2):=by
 rw [k_b hg]
 unfold rhsV
 rw [h]
 simp only [if_pos hl,if_neg ho,hp]
end
def oV:Option Nat->V
 | none=>.non
 | some w=>.int (w:Int)
def hiW(m:Nat):Nat:=2^2^m-1
def gkL(R:Nat->Nat)(hi:Nat)(zs:List (Nat×Nat)):List (Nat×Nat):=(0,0)::(1,hi)::zs.flatMap fun p=>[(R p.1,p.2),(R p.1^^^1,hi^^^p.2)]
def lkN(E:List (Nat×Nat))(x:Nat):Option Nat:=(E.find? fun p=>decide (p.1=x)).map Prod.snd
def Dst(R:Nat->Nat)(ls:List Nat):Prop:=(∀ e∈ls,R e/2≠0)/\(ls.map fun e=>R e/2).Nodup
instance (R:Nat->Nat) (ls:List Nat):Decidable (Dst R ls):=inferInstanceAs (Decidable (_/\_))
def givS(R:Nat->Nat)(ls:List Nat)(e:Nat):Option Nat:=lkN (gkL R (hiW ls.length) (ls.zip (sdL ls.length))) (R e)
def valS(R:Nat->Nat)(L:Nat)(gs:List (Nat×Nat))(ls:List Nat)(e:Nat):Option Nat:=gvW (givS R ls) L gs (hiW ls.length) e
def goodS(R:Nat->Nat)(L:Nat)(gs:List (Nat×Nat))(a b:Nat)(ls:List Nat):Bool:=decide (ls.length<=6/\Dst R ls/\valS R L gs ls a≠none/\valS R L gs ls a=valS R L gs ls b)
theorem lkN_none{E:List (Nat×Nat)}{x:Nat}:lkN E x=none↔∀ p∈E,p.1≠x:=by
 unfold lkN
 rw [Option.map_eq_none_iff,List.find?_eq_none]
 simp
theorem k_d(E:List (Nat×Nat))(p:Nat×Nat)(x:Nat):lkN (E++[p]) x=match lkN E x with | some w=>some w | none=>if p.1=x then some p.2 else none:=by
 unfold lkN
 rw [List.find?_append]
 cases E.find? fun p=>decide (p.1=x) with
 | some q=>rfl
 | none =>
  rw [Option.none_or,List.find?_cons]
  by_cases e:p.1=x
  ·simp [e]
  ·simp [e]
theorem gkL_snoc(R:Nat->Nat)(hi:Nat)(zs:List (Nat×Nat))(p:Nat×Nat):gkL R hi (zs++[p])=gkL R hi zs++[(R p.1,p.2)]++[(R p.1^^^1,hi^^^p.2)]:=by
 unfold gkL
 rw [List.flatMap_append]
 simp
theorem xor1(x:Nat):(x^^^1)/2=x/2/\x^^^1≠x/\(x^^^1)^^^1=x:=by
 refine ⟨x_v x,j_l x,j_k x⟩
theorem dst_new{R:Nat->Nat}{hi:Nat}{ls ws:List Nat}(hd:Dst R ls)(hl:ws.length=ls.length){i x:Nat}(hx:ls[i]? = some x):∀ y,y/2=R x/2->lkN (gkL R hi ((ls.zip ws).take i)) y=none:=by
 intro y hy
 have h0:=hd.1 x (List.mem_of_getElem? hx)
 refine lkN_none.mpr fun p hp e=>?_
 unfold gkL at hp
 rcases List.mem_cons.mp hp with rfl | hp
 ·have:(0:Nat)=y:=e
  lia
 rcases List.mem_cons.mp hp with rfl | hp
 ·have:(1:Nat)=y:=e
  lia
 ·obtain ⟨q,hq,hp⟩:=List.mem_flatMap.mp hp
  obtain ⟨j,hj,rfl⟩:=List.getElem_of_mem hq
  rw [List.length_take] at hj
  have hj':j<(ls.zip ws).length:=by lia
  rw [List.length_zip] at hj'
  rw [List.getElem_take,List.getElem_zip] at hp
  have hk:p.1/2=R ls[j]/2:=by
   simp only [List.mem_cons,List.not_mem_nil,or_false] at hp
   rcases hp with rfl | rfl
   ·rfl
   ·exact (xor1 _).1
  have hii:=(List.getElem?_eq_some_iff.mp hx).1
  have nd:=hd.2
  have e1:(ls.map fun e=>R e/2)[j]? = some (R x/2):=by
   rw [List.getElem?_map,List.getElem?_eq_getElem (by lia)]
   show some (R ls[j]/2)=_
   rw [<-hk,e,hy]
  have e2:(ls.map fun e=>R e/2)[i]? = some (R x/2):=by rw [List.getElem?_map,hx];rfl
  have:=(List.getElem?_inj (by rw [List.length_map];lia) nd).mp (e1.trans e2.symm)
  lia
def gI(gs:List (Nat×Nat)):List (Int×Int):=gs.map fun p=>((p.1:Int),(p.2:Int))
def belN(L:Nat)(gs:List (Nat×Nat))(e:Nat):List Nat:=if e%2=1 then [e-1] else match gs[e/2-L-1]? with
 | some p=>[p.1,p.2]
 | none=>[]
def CloS(giv:Nat->Option Nat)(L:Nat)(gs:List (Nat×Nat))(n a b:Nat):Prop:=∃ S0:List Nat,S0.length<=60/\a∈S0/\b∈S0/\∀ e∈S0,e<2*n/\(giv e=none->L<e/2->∀ d∈belN L gs e,d∈S0)
def k_t:Sp:=fun vs H Q _=>∃ (net g:Addr) (rs:List Addr) (L:Nat) (gs:List (Nat×Nat)) (e:Nat),vs=[.ref net,.int (e:Int)]/\IsNet H net g rs (L:Int) (gI gs)/\L<e/2/\e/2<1+L+gs.length/\gs.length<=1000/\∀ t H',Same H H'->H' t=some (.tup (z_g (belN L gs e)))->Q (.ref t) H'
def l_n:Sp:=fun vs H Q _=>∃ x y:Option Nat,vs=[oV x,oV y]/\Q (oV (bothO x y)) H
def sp_tur(hi:Nat)(fo:Obj)(f c:Addr)(qual:Str):Sp:=fun vs H Q _=>∃ (x:Option Nat) (u:HO),vs=[oV x]/\H f=some (.frz fo u)/\IsCd H c qual/\Q (oV (x.map (hi ^^^ ·))) H
structure FnsA(P:Program)(w:World)(K:PySem.W.Frag)(mg:Str->Option Value)(base:Heap)(H:Hp)(hi:Nat)(f ab c:Addr)(fo ofb:Obj)(qual:Str)(fdt fdb:FuncData):Prop where
 ft:∃ u,H f=some (.frz fo u)
 dt:fo.data = .func fdt
 cd:IsCd H c qual
 Ft:FnOk P w K mg base CX0 1 f fdt ["bits"] (sp_tur hi fo f c qual)
 Bt:Binds K fdt ["bits"] []
 lb:K.lookup ab=some ofb
 db:ofb.data = .func fdb
 Fb:FnOk P w K mg base CX0 1 ab fdb ["one", "other"] l_n
 Bb:Binds K fdb ["one", "other"] []
def k_u(C:Addr)(P:Program)(w:World)(K:PySem.W.Frag)(mg:Str->Option Value)(base:Heap):Sp:=fun vs H Q _=>∃ (net g o l gd et f ab c:Addr) (rs:List Addr) (L n hi a b:Nat) (gs:List (Nat×Nat)) (R:Nat->Nat) (kvs:List (Key×V)) (gv:Nat->Option Nat) (fo ofb:Obj) (qual:Str) (fdt fdb:FuncData),
 vs=[.ref net,.ref o,.ref gd,.ref et,.ref f,.ref ab]/\IsNet H net g rs (L:Int) (gI gs)/\GtO L gs/\n=1+L+gs.length/\n<=1000/\CloS (fun e=>gv (R e)) L gs n a b/\ClsAt C H o l n R/\H gd=some (.dK kvs)/\(∀ x:Nat,valV kvs (.inl (x:Int))=(gv x).map fun w:Nat=>V.int (w:Int))/\H et=some (.tup [.int (a:Int),.int (b:Int)])/\a<2*n/\b<2*n/\g≠l/\FnsA P w K mg base H hi f ab c fo ofb qual fdt fdb /\
 ∀ p H',H p=none->Ch l H H'->ClsAt C H' o l n R->H' p=some (.lst [oV (gvW (fun e=>gv (R e)) L gs hi a),oV (gvW (fun e=>gv (R e)) L gs hi b)])->Q (.ref p) H'
structure StpA(C:Addr)(H:Hp)(net g o l st lt:Addr)(rs:List Addr)(L n a b:Nat)(gs:List (Nat×Nat))(R:Nat->Nat)(ls:List Nat):Prop where
 net:IsNet H net g rs (L:Int) (gI gs)
 gt:GtO L gs
 hn:n=1+L+gs.length
 n30:n<=1000
 cls:ClsAt C H o l n R
 st:H st=some (.tup [.str "stands",.int (a:Int),.int (b:Int),.ref lt])
 lt:H lt=some (.tup (z_g ls))
 ha:a<2*n
 hb:b<2*n
 hl:∀ e∈ls,e<2*n
 l7:ls.length<=7
 gl:g≠l
 clo:ls.length<=6->Dst R ls->CloS (givS R ls) L gs n a b
def f_h(C tp:Addr)(lp:Pos)(lq:Str):Sp:=fun vs H Q _=>∃ (net g o l st lt:Addr) (rs:List Addr) (L n a b:Nat) (gs:List (Nat×Nat)) (R:Nat->Nat) (ls:List Nat),vs=[.ref net,.ref o,.ref st]/\StpA C H net g o l st lt rs L n a b gs R ls/\ls.length<=6/\Dst R ls/\H tp=some (.tbl lp lq) /\
 ∀ p H',Ch l H H'->ClsAt C H' o l n R->H' p=some (.lst [oV (valS R L gs ls a),oV (valS R L gs ls b)])->Q (.ref p) H'
def f_k(C:Addr):Sp:=fun vs H Q _=>∃ (net g o l st lt:Addr) (rs:List Addr) (L n a b:Nat) (gs:List (Nat×Nat)) (R:Nat->Nat) (ls:List Nat),vs=[.ref net,.ref o,.ref st]/\StpA C H net g o l st lt rs L n a b gs R ls/\∀ H',Ch l H H'->ClsAt C H' o l n R->Q (.bl (decide (ls.length<=6/\Dst R ls))) H'
def k_v(C tp:Addr)(lp:Pos)(lq:Str):Sp:=fun vs H Q _=>∃ (net g o l st lt:Addr) (rs:List Addr) (L n a b:Nat) (gs:List (Nat×Nat)) (R:Nat->Nat) (ls:List Nat),vs=[.ref net,.ref o,.ref st]/\StpA C H net g o l st lt rs L n a b gs R ls/\H tp=some (.tbl lp lq) /\
 ∀ H',Ch l H H'->ClsAt C H' o l n R->Q (.bl (goodS R L gs a b ls)) H'
section
variable {X:Cx} {a:Addr} {kvs:List (Str×V)}
theorem n_g(D:TopD X.w X.K a kvs):OpR X (compareOp .NotIn) (fun x y H Q=>∃ z,x = .str z/\y = .ref a/\Q (.bl (!(kvs.lookup z).isSome)) H):=by
 intro pins s σ H x y v u Q I rx ry h
 obtain ⟨z,rfl,rfl,q⟩:=h
 obtain ⟨t,rfl⟩:=rx
 cases ry
 obtain ⟨es,n,h1,h2,h3⟩:=D.find z
 refine wpAny_notIn_of (PySem.strKind_is _ _ z t) D.lo (PySem.W.mapOf_K (prog:=X.prog) I.kIn h1 h2) ?_
 have e:(kvs.lookup z).isSome=(findBy Value.isStrOf es z).isSome:=h3.isSome_eq
 rw [<-e]
 exact ⟨.bl _,H,I.tok _,rfl,q⟩
end
def FdI(kvs:List (Key×V))(S:List Nat)(F:Nat->Option Nat)(m:Nat):Prop:=kvs.length<=m/\∀ e:Nat,valV kvs (.inl (e:Int))=if e∈S then some (oV (F e)) else none
theorem FdI.nil{F:Nat->Option Nat}:FdI [] [] F 0:=⟨Nat.le_refl _,fun e=>by rw [if_neg (List.not_mem_nil)];rfl⟩
theorem FdI.new{kvs:List (Key×V)}{S:List Nat}{F:Nat->Option Nat}{m e:Nat}(h:FdI kvs S F m):FdI (putK kvs (.inl (e:Int)) (oV (F e))) (S++[e]) F (m+1):=by
 refine ⟨Nat.le_trans (x_h _ _ _) (Nat.succ_le_succ h.1),fun d=>?_⟩
 rw [s_a,h.2 d]
 by_cases c:d=e
 ·subst c
  rw [if_pos rfl,if_pos (List.mem_append_right _ (List.mem_singleton.mpr rfl))]
 ·rw [if_neg (o_m c)]
  by_cases q:d∈S
  ·rw [if_pos q,if_pos (List.mem_append_left _ q)]
  ·rw [if_neg q,if_neg (fun w=>(List.mem_append.mp w).elim q fun w=>c (List.mem_singleton.mp w))]
theorem FdI.set{kvs:List (Key×V)}{S:List Nat}{F F':Nat->Option Nat}{m e:Nat}(h:FdI kvs S F m)(he:e∈S)(hF:∀ d∈S,d≠e->F d=F' d):FdI (putK kvs (.inl (e:Int)) (oV (F' e))) S F' (m+1):=by
 refine ⟨Nat.le_trans (x_h _ _ _) (Nat.succ_le_succ h.1),fun d=>?_⟩
 rw [s_a,h.2 d]
 by_cases c:d=e
 ·subst c
  rw [if_pos rfl,if_pos he]
 ·rw [if_neg (o_m c)]
  by_cases q:d∈S
  ·rw [if_pos q,if_pos q,hF d q c]
  ·rw [if_neg q,if_neg q]
theorem FdI.congr{kvs:List (Key×V)}{S:List Nat}{F F':Nat->Option Nat}{m:Nat}(h:FdI kvs S F m)(hF:∀ d∈S,F d=F' d):FdI kvs S F' m:=⟨h.1,fun e=>by
 rw [h.2 e]
 by_cases q:e∈S
 ·rw [if_pos q,if_pos q,hF e q]
 ·rw [if_neg q,if_neg q]⟩
theorem Ch.fr{l a:Addr}{H J:Hp}{o:HO}(c:Ch l H J)(h:H a=none):Ch l H (upd J a o):=fun b u n e=>by
 rw [z_r (z_i e h)]
 exact c b u n e
theorem ClsAt.up{C o l a:Addr}{J:Hp}{n:Nat}{R:Nat->Nat}(c:ClsAt C J o l n R)(n1:o≠a)(n2:l≠a)(x:HO):ClsAt C (upd J a x) o l n R:=by
 obtain ⟨⟨dx,h1⟩,L,h2,u,h3⟩:=c
 exact ⟨⟨dx,by rw [z_r n1];exact h1⟩,L,by rw [z_r n2];exact h2,u,h3⟩
theorem ClsAt.lst{C o l:Addr}{J:Hp}{n:Nat}{R:Nat->Nat}(c:ClsAt C J o l n R):(∃ L,J l=some (.lst (z_g L)))/\∃ x,J o=some x:=by
 obtain ⟨⟨dx,h1⟩,L,h2,u,h3⟩:=c
 exact ⟨⟨L,h2⟩,_,h1⟩
theorem w_m{H:Hp}{a l:Addr}{xs ys:List V}(h:H a=some (.tup xs))(hl:H l=some (.lst ys)):a≠l:=fun e=>by rw [e,hl] at h;cases h
theorem IsNet.chl{H J:Hp}{net g l:Addr}{rs:List Addr}{n:Int}{ps:List (Int×Int)}{ys:List V}(h:IsNet H net g rs n ps)(c:Ch l H J)(ngl:g≠l)(hl:H l=some (.lst ys)):IsNet J net g rs n ps :=
 ⟨c _ _ (w_m h.p hl) h.p,c _ _ ngl h.g.1,z_w (fun r p e=>c _ _ (w_m e hl) e) h.g.2⟩
theorem s_b(L:List Nat):z_g L=(L.map fun k:Nat=>(k:Int)).map V.int:=by unfold z_g;rw [List.map_map];rfl
theorem sort_nat{ns:List Int}{gs:List Nat}(h:ns.Perm (gs.map fun k:Nat=>(k:Int)))(hp:ns.Pairwise (· <= ·)):∃ sg:List Nat,ns=sg.map (fun k:Nat=>(k:Int))/\sg.Perm gs/\sg.Pairwise (· <= ·):=by
 have e:ns=(ns.map Int.toNat).map fun k:Nat=>(k:Int):=by
  rw [List.map_map]
  refine (List.map_id ns).symm.trans (List.map_congr_left fun x hx=>?_)
  obtain ⟨k,_,rfl⟩:=List.mem_map.mp (h.mem_iff.mp hx)
  show ((k:Nat):Int)=(((k:Nat):Int).toNat:Int)
  lia
 refine ⟨ns.map Int.toNat,e,?_,?_⟩
 ·have:=h.map Int.toNat
  rw [List.map_map] at this
  refine this.trans ?_
  have e2:gs.map (Int.toNat ∘ fun k:Nat=>(k:Int))=gs:=(List.map_congr_left fun x _=>show ((x:Nat):Int).toNat=x by lia).trans (List.map_id gs)
  rw [e2]
 ·exact List.pairwise_map.mpr (hp.imp fun h=>Int.toNat_le_toNat h)
theorem last_ex{α:Type}{l:List α}(h:l≠[]):∃ i x,l=i++[x]:=⟨l.dropLast,l.getLast h,(List.dropLast_concat_getLast h).symm⟩
structure FndI(giv:Nat->Option Nat)(L a b:Nat)(S0:List Nat)(gs:List (Nat×Nat))(S gts wt:List Nat):Prop where
 nd:S.Nodup
 hs:∀ e∈S,e∈S0
 hw:∀ e∈wt,e∈S0
 gn:gts.Nodup
 gi:∀ e,e∈gts↔e∈S/\giv e=none/\L<e/2
 cl:∀ e∈gts,∀ d∈belN L gs e,d∈S\/d∈wt
 ca:a∈S\/a∈wt
 cb:b∈S\/b∈wt
 wl:wt.length<=2+2*S.length
section
variable {giv:Nat->Option Nat} {L n a b:Nat} {gs:List (Nat×Nat)} {S0 S gts wt:List Nat} {e:Nat}
theorem i_s(hG:GtO L gs)(hn:n=1+L+gs.length)(he:e<2*n)(hl:L<e/2):(∀ d∈belN L gs e,d<e)/\(belN L gs e).length<=2:=by
 unfold belN
 by_cases c:e%2=1
 ·rw [if_pos c]
  exact ⟨(fun d hd=>by rw [List.mem_singleton.mp hd];lia),Nat.le_succ _⟩
 ·rw [if_neg c]
  cases hp:gs[e/2-L-1]? with
  | none=>exact ⟨(fun d hd=>nomatch hd),Nat.zero_le _⟩
  | some p =>
   obtain ⟨h1,h2⟩:=hG _ _ hp
   refine ⟨fun d hd=>?_,Nat.le_refl _⟩
   have hd':d=p.1\/d=p.2:=by simpa using hd
   rcases hd' with rfl | rfl<;>lia
theorem FndI.old(h:FndI giv L a b S0 gs S gts (wt++[e]))(he:e∈S):FndI giv L a b S0 gs S gts wt:=by
 have sub:∀ d,d∈S\/d∈wt++[e]->d∈S\/d∈wt:=fun d hd=>by
  rcases hd with hd | hd
  ·exact .inl hd
  ·rcases List.mem_append.mp hd with hd | hd
   ·exact .inr hd
   ·rw [List.mem_singleton.mp hd];exact .inl he
 have hl:=h.wl
 rw [List.length_append] at hl
 exact ⟨h.nd,h.hs,fun d hd=>h.hw d (List.mem_append_left _ hd),h.gn,h.gi,fun x hx d hd=>sub d (h.cl x hx d hd),sub a h.ca,sub b h.cb,by lia⟩
theorem FndI.plain(h:FndI giv L a b S0 gs S gts (wt++[e]))(he:e∉S)(hg:¬(giv e=none/\L<e/2)):FndI giv L a b S0 gs (S++[e]) gts wt:=by
 have sub:∀ d,d∈S\/d∈wt++[e]->d∈S++[e]\/d∈wt:=fun d hd=>by
  rcases hd with hd | hd
  ·exact .inl (List.mem_append_left _ hd)
  ·rcases List.mem_append.mp hd with hd | hd
   ·exact .inr hd
   ·exact .inl (List.mem_append_right _ hd)
 have hl:=h.wl
 rw [List.length_append] at hl
 refine ⟨List.pairwise_append.mpr ⟨h.nd,List.pairwise_singleton _ _,fun x hx y hy z=>he (by rw [<-List.mem_singleton.mp hy,<-z];exact hx)⟩,fun d hd=>?_,fun d hd=>h.hw d (List.mem_append_left _ hd),h.gn,fun x=>?_,fun x hx d hd=>sub d (h.cl x hx d hd),sub a h.ca,sub b h.cb,by rw [List.length_append];lia⟩
 ·rcases List.mem_append.mp hd with hd | hd
  ·exact h.hs d hd
  ·exact h.hw d (List.mem_append_right _ hd)
 ·rw [h.gi x]
  constructor
  ·exact fun q=>⟨List.mem_append_left _ q.1,q.2⟩
  ·rintro ⟨q1,q2⟩
   refine ⟨?_,q2⟩
   rcases List.mem_append.mp q1 with q | q
   ·exact q
   ·rw [List.mem_singleton.mp q] at q2
    exact absurd q2 hg
theorem FndI.gate(h:FndI giv L a b S0 gs S gts (wt++[e]))(hG:GtO L gs)(hn:n=1+L+gs.length)(hen:e<2*n)(h0:∀ d∈belN L gs e,d∈S0)(he:e∉S)(hg:giv e=none)(hl:L<e/2):FndI giv L a b S0 gs (S++[e]) (gts++[e]) (wt++belN L gs e):=by
 have he2:=h.hw e (List.mem_append_right _ (List.mem_singleton.mpr rfl))
 obtain ⟨hb1,hb2⟩:=i_s hG hn hen hl
 have sub:∀ d,d∈S\/d∈wt++[e]->d∈S++[e]\/d∈wt++belN L gs e:=fun d hd=>by
  rcases hd with hd | hd
  ·exact .inl (List.mem_append_left _ hd)
  ·rcases List.mem_append.mp hd with hd | hd
   ·exact .inr (List.mem_append_left _ hd)
   ·exact .inl (List.mem_append_right _ hd)
 have hlw:=h.wl
 rw [List.length_append] at hlw
 have hge:e∉gts:=fun q=>he ((h.gi e).mp q).1
 refine ⟨List.pairwise_append.mpr ⟨h.nd,List.pairwise_singleton _ _,fun x hx y hy z=>he (by rw [<-List.mem_singleton.mp hy,<-z];exact hx)⟩,fun d hd=>?_,fun d hd=>?_,List.pairwise_append.mpr ⟨h.gn,List.pairwise_singleton _ _,fun x hx y hy z=>hge (by rw [<-List.mem_singleton.mp hy,<-z];exact hx)⟩,fun x=>?_,fun x hx d hd=>?_,sub a h.ca,sub b h.cb,by rw [List.length_append,List.length_append];have:[e].length=1:=rfl;lia⟩
 ·rcases List.mem_append.mp hd with hd | hd
  ·exact h.hs d hd
  ·rw [List.mem_singleton.mp hd];exact he2
 ·rcases List.mem_append.mp hd with hd | hd
  ·exact h.hw d (List.mem_append_left _ hd)
  ·exact h0 d hd
 ·rw [List.mem_append,List.mem_append,List.mem_singleton,h.gi x]
  constructor
  ·rintro (⟨q1,q2⟩ | rfl)
   ·exact ⟨.inl q1,q2⟩
   ·exact ⟨.inr rfl,hg,hl⟩
  ·rintro ⟨q1,q2⟩
   rcases q1 with q1 | q1
   ·exact .inl ⟨q1,q2⟩
   ·exact .inr q1
 ·rcases List.mem_append.mp hx with hx | hx
  ·exact sub d (h.cl x hx d hd)
  ·rw [List.mem_singleton.mp hx] at hd
   exact .inr (List.mem_append_right _ hd)
end
theorem p_r{sg:List Nat}(h:sg.Pairwise (· <= ·)){i e d:Nat}(he:sg[i]? = some e)(hd:d∈sg)(lt:d<e):d∈sg.take i:=by
 obtain ⟨j,hj⟩:=List.getElem?_of_mem hd
 have hi:=(List.getElem?_eq_some_iff.mp he).1
 have hjl:=(List.getElem?_eq_some_iff.mp hj).1
 have e1:sg[i]=e:=(List.getElem?_eq_some_iff.mp he).2
 have e2:sg[j]=d:=(List.getElem?_eq_some_iff.mp hj).2
 have hji:j<i:=by
  by_cases c:j<i
  ·exact c
  ·exfalso
   by_cases c2:i=j
   ·subst c2
    lia
   ·have:=List.pairwise_iff_getElem.mp h i j hi hjl (by lia)
    lia
 exact List.mem_take_iff_getElem.mpr ⟨j,by lia,e2⟩
theorem take_not{sg:List Nat}(nd:sg.Nodup){i e:Nat}(he:sg[i]? = some e):e∉sg.take i:=fun h=>by
 obtain ⟨j,hj,e2⟩:=List.mem_take_iff_getElem.mp h
 have hi:=(List.getElem?_eq_some_iff.mp he).1
 have:=(List.getElem?_inj (show j<sg.length by lia) nd).mp ((List.getElem?_eq_some_iff.mpr ⟨by lia,e2⟩:sg[j]? = some e).trans he.symm)
 lia
theorem oV_get(o:Option Nat):((o.map fun w:Nat=>V.int (w:Int)).getD .non)=oV o:=by cases o<;>rfl
def DkI(kvs:List (Key×V))(E:List (Nat×Nat))(m:Nat):Prop:=kvs.length<=m/\∀ x:Nat,valV kvs (.inl (x:Int))=(lkN E x).map fun w:Nat=>V.int (w:Int)
theorem DkI.new{kvs:List (Key×V)}{E:List (Nat×Nat)}{m k w:Nat}(h:DkI kvs E m)(hn:lkN E k=none):DkI (putK kvs (.inl (k:Int)) (.int (w:Int))) (E++[(k,w)]) (m+1):=by
 refine ⟨Nat.le_trans (x_h _ _ _) (Nat.succ_le_succ h.1),fun x=>?_⟩
 rw [s_a,h.2 x,k_d]
 by_cases c:x=k
 ·subst c
  rw [if_pos rfl,hn]
  simp
 ·rw [if_neg (o_m c)]
  cases lkN E x with
  | some w=>rfl
  | none=>simp [Ne.symm c]
theorem DkI.two{hi:Nat}:DkI (mergeK [] [((.inl ((0:Nat):Int):Key),V.int ((0:Nat):Int)),(.inl ((1:Nat):Int),.int (hi:Int))]) [(0,0),(1,hi)] 2:=by
 refine ⟨?_,fun x=>?_⟩
 ·have e:mergeK [] [((.inl ((0:Nat):Int):Key),V.int ((0:Nat):Int)),(.inl ((1:Nat):Int),.int (hi:Int))]=putK (putK [] (.inl ((0:Nat):Int)) (.int ((0:Nat):Int))) (.inl ((1:Nat):Int)) (.int (hi:Int)):=rfl
  rw [e]
  exact Nat.le_trans (x_h _ _ _) (Nat.succ_le_succ (Nat.le_trans (x_h _ _ _) (Nat.le_refl _)))
 ·rw [f_t]
  unfold lkN
  by_cases c:x=1
  ·subst c;rfl
  ·by_cases d:x=0
   ·subst d;rfl
   ·rw [if_neg c,if_neg d]
    simp [List.find?_cons,Ne.symm c,Ne.symm d]
theorem q_w(z:Nat):∀ ws:List Nat,inV (V.int (z:Int)) (z_g ws)=decide (z∈ws)
 | []=>rfl
 | a::ws=>by
  have ih:=q_w z ws
  unfold inV at ih ⊢
  show (eqV (.int (a:Int)) (.int (z:Int)) || (z_g ws).any fun y=>eqV y (.int (z:Int)))=_
  rw [ih]
  by_cases h:a=z
  ·subst h
   simp [eqV]
  ·have h':¬z=a:=fun e=>h e.symm
   have h2:¬(a:Int)=(z:Int):=by lia
   simp [eqV,h',h2]
theorem r_a:∀ ws:List Nat,(z_g ws).all flatV=true
 | []=>rfl
 | a::ws=>by
  show (true&&(z_g ws).all flatV)=true
  rw [r_a ws]
  rfl
theorem f_u{K:Type}[DecidableEq K]{ks:List K}{d0:K}:∀ {i:Nat},i<=ks.length->(ucn ks d0 i=i↔(ks.take i).Nodup)
 | 0,_=>by simp [ucn]
 | i+1,h=>by
  have ih:=f_u (ks:=ks) (d0:=d0) (i:=i) (by lia)
  have le:=j_a ks d0 i
  have hg:ks[i]? = some (ks.getD i d0):=by rw [List.getD_eq_getElem?_getD,List.getElem?_eq_getElem (by lia)];rfl
  rw [y_u hg]
  unfold ucn
  by_cases c:ks.getD i d0∈ks.take i
  ·rw [if_pos c]
   constructor
   ·intro e;lia
   ·intro nd
    exact absurd rfl ((List.pairwise_append.mp nd).2.2 _ c _ (List.mem_singleton.mpr rfl))
  ·rw [if_neg c]
   constructor
   ·intro e
    exact List.pairwise_append.mpr ⟨ih.mp (by lia),List.pairwise_singleton _ _,fun x hx y hy z=>c (by rw [<-List.mem_singleton.mp hy,<-z];exact hx)⟩
   ·intro nd
    have:=ih.mpr (List.pairwise_append.mp nd).1
    lia
theorem ucI_iff{ks:List Nat}:ucI (ks.map fun k:Nat=>(k:Int))=ks.length↔ks.Nodup:=by
 unfold ucI
 have h:=f_u (ks:=(ks.map fun k:Nat=>(k:Int)).map (Sum.inl:Int->Key)) (d0:=.inr "") (i:=ks.length) (by rw [List.length_map,List.length_map];exact Nat.le_refl _)
 rw [List.length_map,h,List.take_of_length_le (by rw [List.length_map,List.length_map];exact Nat.le_refl _),List.map_map]
 unfold List.Nodup
 rw [List.pairwise_map]
 constructor
 ·exact fun h=>h.imp fun {a b} x e=>x (by rw [e])
 ·exact fun h=>h.imp fun {a b} x e=>x (by
   have e':(Sum.inl ((a:Nat):Int):Key) = .inl ((b:Nat):Int):=e
   injection e' with e'
   have:(a:Int)=(b:Int):=e'
   lia)
theorem f_n{S S0:List Nat}(nd:S.Nodup)(h:∀ e∈S,e∈S0):S.length<=S0.length:=o_v nd (ys:=S0) h
open PySem
structure Wlk(ins K n:Nat)(p t:Nat->Nat):Prop where
 sh:∀ k,k<=ins->p k=t k
 lt:∀ k,ins<k->k<K->p k<t k
 pi:∀ j k,j<K->k<K->p j=p k->j=k
 pt:∀ j k,j<K->ins<k->k<K->p j≠t k
 ti:∀ j k,ins<j->j<K->ins<k->k<K->t j=t k->j=k
 tn:∀ k,k<K->t k<n
 p0:p 0=0
def rk(ins:Nat)(p t:Nat->Nat)(j x:Nat):Nat:=match (List.range j).find? fun k=>decide (ins<k/\t k=x) with
 | some k=>p k
 | none=>x
def rE(ins:Nat)(p t:Nat->Nat)(j e:Nat):Nat:=2*rk ins p t j (e/2)+e%2
def eM(p:Nat->Nat)(e:Nat):Nat:=2*p (e/2)+e%2
section
variable {ins K n:Nat} {p t:Nat->Nat}
theorem l_j{j x:Nat}(h:∀ k,k<j->ins<k->t k≠x):rk ins p t j x=x:=by
 unfold rk
 rw [List.find?_eq_none.mpr fun k hk=>by
  have:=h k (List.mem_range.mp hk)
  simp only [decide_eq_true_eq]
  exact fun q=>this q.1 q.2]
theorem k_o(W:Wlk ins K n p t){j k:Nat}(hj:j<=K)(hk:k<j)(hi:ins<k):rk ins p t j (t k)=p k:=by
 unfold rk
 cases e:(List.range j).find? fun m=>decide (ins<m/\t m=t k) with
 | none =>
  have:=List.find?_eq_none.mp e k (List.mem_range.mpr hk)
  simp [hi] at this
 | some m =>
  have h1:=List.find?_some e
  have h2:=List.mem_range.mp (List.mem_of_find?_eq_some e)
  simp only [decide_eq_true_eq] at h1
  have:=W.ti m k h1.1 (by lia) hi (by lia) h1.2
  subst this
  rfl
theorem k_n(W:Wlk ins K n p t){j:Nat}(hj:j<=K)(x:Nat):(∃ k,k<j/\ins<k/\t k=x/\rk ins p t j x=p k)\/((∀ k,k<j->ins<k->t k≠x)/\rk ins p t j x=x):=by
 by_cases h:∃ k,k<j/\ins<k/\t k=x
 ·obtain ⟨k,h1,h2,rfl⟩:=h
  exact .inl ⟨k,h1,h2,rfl,k_o W hj h1 h2⟩
 ·have h':∀ k,k<j->ins<k->t k≠x:=fun k a b c=>h ⟨k,a,b,c⟩
  exact .inr ⟨h',l_j h'⟩
theorem p_l:rE ins p t (ins+1)=id:=by
 funext e
 unfold rE
 rw [l_j fun k h1 h2=>by lia]
 show 2*(e/2)+e%2=e
 lia
theorem rE_p(W:Wlk ins K n p t){j e:Nat}(hj:j<=K)(he:e/2<K):rE ins p t j (eM p e)=eM p e:=by
 have h1:eM p e/2=p (e/2):=by unfold eM;lia
 have h2:eM p e%2=e%2:=by unfold eM;lia
 unfold rE
 rw [h1,h2,l_j fun k a b=>Ne.symm (W.pt _ k he b (by lia))]
 rfl
theorem rE_t(W:Wlk ins K n p t){j e:Nat}(hj:j<=K)(he:e/2<j):rE ins p t j (eM t e)=eM p e:=by
 have h1:eM t e/2=t (e/2):=by unfold eM;lia
 have h2:eM t e%2=e%2:=by unfold eM;lia
 unfold rE
 rw [h1,h2]
 by_cases c:ins<e/2
 ·rw [k_o W hj he c]
  rfl
 ·rw [l_j fun k a b q=>W.pt (e/2) k (by lia) b (by lia) (by rw [W.sh _ (by lia)];exact q.symm),<-W.sh _ (by lia)]
  rfl
theorem g_x(W:Wlk ins K n p t){m:Nat}(hm:m<K)(hi:ins<m):rE ins p t m (2*t m)=2*t m:=by
 unfold rE
 rw [show 2*t m/2=t m by lia,show 2*t m%2=0 by lia,l_j fun k a b q=>by
  have:=W.ti k m b (by lia) hi hm q
  lia]
 rfl
theorem m_n{x:Nat}:(2*x)^^^1=2*x+1:=q_s
theorem g_w(W:Wlk ins K n p t){m:Nat}(hm:m<K)(hi:ins<m):jn (rE ins p t m) (2*p m) (2*t m)=rE ins p t (m+1):=by
 funext e
 unfold jn
 rw [m_n,m_n]
 have key:rk ins p t (m+1) (e/2)=if e/2=t m then p m else rk ins p t m (e/2):=by
  by_cases c:e/2=t m
  ·rw [if_pos c,c,k_o W (by lia) (Nat.lt_succ_self m) hi]
  ·rw [if_neg c]
   rcases k_n W (j:=m) (by lia) (e/2) with ⟨k,h1,h2,h3,h4⟩ | ⟨h1,h2⟩
   ·rw [h4,<-h3,k_o W (by lia) (by lia) h2]
   ·rw [h2,l_j fun k a b=>?_]
    by_cases d:k=m
    ·subst d;exact Ne.symm c
    ·exact h1 k (by lia) b
 have hne:e/2≠t m->rk ins p t m (e/2)≠t m:=fun c=>by
  rcases k_n W (j:=m) (by lia) (e/2) with ⟨k,h1,h2,h3,h4⟩ | ⟨h1,h2⟩
  ·rw [h4];exact W.pt k m (by lia) hi hm
  ·rw [h2];exact c
 unfold rE
 rw [key]
 by_cases c:e/2=t m
 ·have h5:rk ins p t m (e/2)=t m:=by rw [c];exact l_j fun k a b q=>by have:=W.ti k m b (by lia) hi hm q;lia
  rw [if_pos c,h5]
  rcases (show e%2=0\/e%2=1 by lia) with h | h
  ·rw [if_pos (by lia)];lia
  ·rw [if_neg (by lia),if_pos (by lia)];lia
 ·have:=hne c
  rw [if_neg c,if_neg (by lia),if_neg (by lia)]
def lvs(A B:Nat):List Nat:=(if A/2=0 then [] else [A])++(if B/2=0\/B/2=A/2 then [] else [B])
theorem q_z{A B x:Nat}(h:x∈lvs A B):(x=A\/x=B)/\x/2≠0:=by
 unfold lvs at h
 rcases List.mem_append.mp h with h | h
 ·split at h
  ·cases h
  ·rename_i c;rw [List.mem_singleton.mp h];exact ⟨.inl rfl,c⟩
 ·split at h
  ·cases h
  ·rename_i c;rw [List.mem_singleton.mp h];exact ⟨.inr rfl,fun q=>c (.inl q)⟩
theorem q_y(A B:Nat):(lvs A B).length<=2:=by
 unfold lvs
 rw [List.length_append]
 split<;>split<;>simp
theorem lvs_dst{R:Nat->Nat}{A B:Nat}(ha:R A=A)(hb:R B=B):Dst R (lvs A B):=by
 refine ⟨fun e he=>?_,?_⟩
 ·obtain ⟨h1,h2⟩:=q_z he
  rcases h1 with rfl | rfl
  ·rw [ha];exact h2
  ·rw [hb];exact h2
 ·unfold lvs
  by_cases c:A/2=0
  ·rw [if_pos c]
   split
   ·exact .nil
   ·exact List.pairwise_singleton _ _
  ·rw [if_neg c]
   by_cases d:B/2=0\/B/2=A/2
   ·rw [if_pos d];exact List.pairwise_singleton _ _
   ·rw [if_neg d]
    show [R A/2,R B/2].Nodup
    rw [ha,hb]
    refine .cons (fun x hx=>?_) (List.pairwise_singleton _ _)
    rw [List.mem_singleton.mp hx]
    exact fun q=>d (.inr q.symm)
theorem h_v{A B:Nat}:(A/2=0\/A∈lvs A B)/\(B/2=0\/∃ y∈lvs A B,y/2=B/2):=by
 unfold lvs
 refine ⟨?_,?_⟩
 ·by_cases c:A/2=0
  ·exact .inl c
  ·rw [if_neg c];exact .inr (List.mem_append_left _ (List.mem_singleton.mpr rfl))
 ·by_cases c:B/2=0
  ·exact .inl c
  ·by_cases d:B/2=A/2
   ·refine .inr ⟨A,List.mem_append_left _ ?_,d.symm⟩
    rw [if_neg (by lia)]
    exact List.mem_singleton.mpr rfl
   ·refine .inr ⟨B,List.mem_append_right _ ?_,rfl⟩
    rw [if_neg (fun q=>q.elim c d)]
    exact List.mem_singleton.mpr rfl
theorem s_q{E:List (Nat×Nat)}{q:Nat×Nat}(h:q∈E):lkN E q.1≠none:=fun e=>lkN_none.mp e q h rfl
theorem s_p{R:Nat->Nat}{ls:List Nat}{e y:Nat}(h:R e/2=0\/(y∈ls/\R y/2=R e/2)):givS R ls e≠none:=by
 unfold givS
 rcases h with h | ⟨hy,h⟩
 ·rcases (show R e=0\/R e=1 by lia) with q | q
  ·rw [q];exact s_q (q:=(0,0)) List.mem_cons_self
  ·rw [q];exact s_q (q:=(1,hiW ls.length)) (List.mem_cons_of_mem _ List.mem_cons_self)
 ·obtain ⟨i,hi⟩:=List.getElem?_of_mem hy
  have hil:=(List.getElem?_eq_some_iff.mp hi).1
  have hw:(sdL ls.length)[i]? = some ((sdL ls.length)[i]'(by rw [p_p];exact hil)):=List.getElem?_eq_getElem _
  generalize (sdL ls.length)[i]'(by rw [p_p];exact hil)=w at hw
  have hz:(y,w)∈ls.zip (sdL ls.length):=List.mem_of_getElem? (List.getElem?_zip_eq_some.mpr ⟨hi,hw⟩)
  have hin:∀ q∈[(R y,w),(R y^^^1,hiW ls.length^^^w)],q∈gkL R (hiW ls.length) (ls.zip (sdL ls.length)):=fun q hq=>by
   unfold gkL
   exact List.mem_cons_of_mem _ (List.mem_cons_of_mem _ (List.mem_flatMap.mpr ⟨(y,w),hz,hq⟩))
  have hc:R e=R y\/R e=R y^^^1:=by
   have h1:=x_v (R y)
   have h2:=j_l (R y)
   lia
  rcases hc with q | q
  ·rw [q];exact s_q (q:=(R y,w)) (hin _ List.mem_cons_self)
  ·rw [q];exact s_q (q:=(R y^^^1,hiW ls.length^^^w)) (hin _ (List.mem_cons_of_mem _ List.mem_cons_self))
theorem k_a{R:Nat->Nat}{ls:List Nat}{e:Nat}(h0:R e/2≠0)(h:∀ y∈ls,R y/2≠R e/2):givS R ls e=none:=by
 unfold givS
 refine lkN_none.mpr fun q hq z=>?_
 unfold gkL at hq
 rcases List.mem_cons.mp hq with rfl | hq
 ·have:(0:Nat)=R e:=z
  lia
 rcases List.mem_cons.mp hq with rfl | hq
 ·have:(1:Nat)=R e:=z
  lia
 obtain ⟨x,hx,hq⟩:=List.mem_flatMap.mp hq
 obtain ⟨y,w⟩:=x
 have hy:=h y (List.of_mem_zip hx).1
 simp only [List.mem_cons,List.not_mem_nil,or_false] at hq
 have hd:=x_v (R y)
 rcases hq with rfl | rfl
 ·have:R y=R e:=z
  lia
 ·have:R y^^^1=R e:=z
  lia
theorem j_e(x y:Option Nat):bothO x y=bothO y x:=by
 cases x<;>cases y<;>try rfl
 show some _=some _
 rw [Nat.and_comm]
theorem h_i{R:Nat->Nat}{ls:List Nat}{e d:Nat}(h:R e=R d):givS R ls e=givS R ls d:=by
 unfold givS
 rw [h]
theorem m_b(W:Wlk ins K n p t){L:Nat}{gs:List (Nat×Nat)}(hG:GtO L gs)(hn:n=1+L+gs.length){m a b:Nat}(hm:m<K)(hi:ins<m)(ha:a/2<m)(hb:b/2<m)(lp:L<p m)
  (g1:gs[p m-L-1]? = some (eM p a,eM p b)) (g2:gs[t m-L-1]? = some (eM t b,eM t a)):goodS (rE ins p t m) L gs (2*p m) (2*t m) (lvs (eM p a) (eM p b))=true/\CloS (givS (rE ins p t m) (lvs (eM p a) (eM p b))) L gs n (2*p m) (2*t m):=by
 have lt:=W.lt m hi hm
 have tn:=W.tn m hm
 have RA:=rE_p W (j:=m) (e:=a) (by lia) (by lia)
 have RB:=rE_p W (j:=m) (e:=b) (by lia) (by lia)
 have RTa:=rE_t W (j:=m) (e:=a) (by lia) ha
 have RTb:=rE_t W (j:=m) (e:=b) (by lia) hb
 have Rp:rE ins p t m (2*p m)=2*p m:=by
  have:=rE_p W (j:=m) (e:=2*m) (by lia) (by lia)
  unfold eM at this
  rw [show 2*m/2=m by lia,show 2*m%2=0 by lia] at this
  exact this
 have Rt:=g_x W hm hi
 obtain ⟨g11,g12⟩:=hG _ _ g1
 have g11:eM p a<2*p m:=by have:eM p a<2*(1+L+(p m-L-1)):=g11;lia
 have g12:eM p b<2*p m:=by have:eM p b<2*(1+L+(p m-L-1)):=g12;lia
 obtain ⟨g21,g22⟩:=hG _ _ g2
 have g21:eM t b<2*t m:=by have:eM t b<2*(1+L+(t m-L-1)):=g21;lia
 have g22:eM t a<2*t m:=by have:eM t a<2*(1+L+(t m-L-1)):=g22;lia
 have GA:givS (rE ins p t m) (lvs (eM p a) (eM p b)) (eM p a)≠none:=by
  rcases (h_v (A:=eM p a) (B:=eM p b)).1 with h | h
  ·exact s_p (y:=0) (.inl (by rw [RA];exact h))
  ·exact s_p (.inr ⟨h,rfl⟩)
 have GB:givS (rE ins p t m) (lvs (eM p a) (eM p b)) (eM p b)≠none:=by
  rcases (h_v (A:=eM p a) (B:=eM p b)).2 with h | ⟨y,hy,h⟩
  ·exact s_p (y:=0) (.inl (by rw [RB];exact h))
  ·refine s_p (.inr ⟨hy,?_⟩)
   rw [RB]
   rcases (q_z hy).1 with rfl | rfl
   ·rw [RA];exact h
   ·rw [RB]
 have GTa:=h_i (ls:=lvs (eM p a) (eM p b)) (RTa.trans RA.symm)
 have GTb:=h_i (ls:=lvs (eM p a) (eM p b)) (RTb.trans RB.symm)
 have lvR:∀ y∈lvs (eM p a) (eM p b),rE ins p t m y/2<p m:=fun y hy=>by
  rcases (q_z hy).1 with rfl | rfl
  ·rw [RA];lia
  ·rw [RB];lia
 have Np:givS (rE ins p t m) (lvs (eM p a) (eM p b)) (2*p m)=none:=k_a (by rw [Rp];lia) fun y hy=>by
  have:=lvR y hy
  rw [Rp];lia
 have Nt:givS (rE ins p t m) (lvs (eM p a) (eM p b)) (2*t m)=none:=k_a (by rw [Rt];lia) fun y hy=>by
  have:=lvR y hy
  rw [Rt];lia
 generalize hls:lvs (eM p a) (eM p b)=ls at *
 have VA:∀ {e:Nat},givS (rE ins p t m) ls e≠none->valS (rE ins p t m) L gs ls e=givS (rE ins p t m) ls e:=fun {e} h=>by
  cases hw:givS (rE ins p t m) ls e with
  | none=>exact absurd hw h
  | some w=>exact h_j hG hw
 have vp:valS (rE ins p t m) L gs ls (2*p m)=bothO (givS (rE ins p t m) ls (eM p a)) (givS (rE ins p t m) ls (eM p b)):=by
  have:=q_u (hi:=hiW ls.length) hG Np (by lia) (by lia) (by rw [show 2*p m/2-L-1=p m-L-1 by lia];exact g1)
  rw [<-VA GA,<-VA GB]
  exact this
 have vt:valS (rE ins p t m) L gs ls (2*t m)=bothO (givS (rE ins p t m) ls (eM p b)) (givS (rE ins p t m) ls (eM p a)):=by
  have:=q_u (hi:=hiW ls.length) hG Nt (by lia) (by lia) (by rw [show 2*t m/2-L-1=t m-L-1 by lia];exact g2)
  rw [<-GTa,<-GTb,<-VA (by rw [GTb];exact GB),<-VA (by rw [GTa];exact GA)]
  exact this
 refine ⟨decide_eq_true ⟨?_,?_,?_,?_⟩,?_⟩
 ·rw [<-hls]
  exact Nat.le_trans (q_y _ _) (by decide)
 ·rw [<-hls]
  exact lvs_dst RA RB
 ·rw [vp]
  cases hx:givS (rE ins p t m) ls (eM p a) with
  | none=>exact absurd hx GA
  | some x =>
   cases hy:givS (rE ins p t m) ls (eM p b) with
   | none=>exact absurd hy GB
   | some y=>nofun
 ·rw [vp,vt,j_e]
 ·refine ⟨[2*p m,2*t m,eM p a,eM p b,eM t b,eM t a],by show 6<=60;decide,by simp,by simp,fun e he=>?_⟩
  simp only [List.mem_cons,List.not_mem_nil,or_false] at he
  have bp:belN L gs (2*p m)=[eM p a,eM p b]:=by
   unfold belN
   rw [if_neg (by lia),show 2*p m/2-L-1=p m-L-1 by lia,g1]
  have bt':belN L gs (2*t m)=[eM t b,eM t a]:=by
   unfold belN
   rw [if_neg (by lia),show 2*t m/2-L-1=t m-L-1 by lia,g2]
  rcases he with rfl | rfl | rfl | rfl | rfl | rfl
  ·refine ⟨by lia,fun _ _ d hd=>?_⟩
   rw [bp] at hd
   simp only [List.mem_cons,List.not_mem_nil,or_false] at hd ⊢
   rcases hd with rfl | rfl<;>simp
  ·refine ⟨by lia,fun _ _ d hd=>?_⟩
   rw [bt'] at hd
   simp only [List.mem_cons,List.not_mem_nil,or_false] at hd ⊢
   rcases hd with rfl | rfl<;>simp
  ·exact ⟨by lia,fun h=>absurd h GA⟩
  ·exact ⟨by lia,fun h=>absurd h GB⟩
  ·exact ⟨by lia,fun h=>absurd h (by rw [GTb];exact GB)⟩
  ·exact ⟨by lia,fun h=>absurd h (by rw [GTa];exact GA)⟩
end
open PySem
def k1(A B:Wk)(x:Nat):Nat:=if x<=A.ins+A.boxes.length then x else x+B.boxes.length
def k2(A B:Wk)(x:Nat):Nat:=if x<=A.ins then x else if x<=A.ins+B.boxes.length then x+A.boxes.length else x+A.boxes.length+A.gates.length
def kn(W:Wk)(x:Nat):Nat:=if x<=W.ins+W.boxes.length then x else x+W.ins
theorem o_i(f:Nat->Nat)(e:Nat):eM f e/2=f (e/2):=by unfold eM;lia
theorem eM_mod(f:Nat->Nat)(e:Nat):eM f e%2=e%2:=by unfold eM;lia
theorem t_h(f g:Nat->Nat)(e:Nat):eM f (eM g e)=eM (fun x=>f (g x)) e:=by
 show 2*f (eM g e/2)+eM g e%2=_
 rw [o_i,eM_mod]
 rfl
theorem F1_nat(A B:Wk)(e:Nat):F1 A B (e:Int)=((eM (k1 A B) e:Nat):Int):=by
 unfold F1 leF eM k1
 split
 ·rw [if_neg (by lia)];lia
 ·split<;>rw [if_pos (by lia)]<;>lia
theorem F2_nat(A B:Wk)(e:Nat):F2 A B (e:Int)=((eM (k2 A B) e:Nat):Int):=by
 unfold F2 leF eM k2
 split
 ·rw [if_neg (by lia),if_neg (by lia)];lia
 ·split
  ·rw [if_neg (by lia),if_pos (by lia)];lia
  ·rw [if_pos (by lia)];lia
theorem o_u(W:Wk)(e:Nat):neF W (e:Int)=((eM (kn W) e:Nat):Int):=by
 unfold neF eM kn
 split
 ·rw [if_pos (by lia)];lia
 ·rw [if_neg (by lia)];lia
structure Twn(A B:Wk)(tw:Nat->Nat):Prop where
 ins:B.ins=A.ins
 bl:B.boxes.length=A.boxes.length
 lo:∀ k,k<A.first->tw k=k
 hi:∀ j,j<A.gates.length->A.first+j<=tw (A.first+j)/\tw (A.first+j)<A.first+B.gates.length
 mo:∀ i j,i<j->j<A.gates.length->tw (A.first+i)<tw (A.first+j)
 gt:∀ (j a b:Nat),A.gates[j]? = some ((a:Int),(b:Int))->B.gates[tw (A.first+j)-A.first]? = some (((eM tw b:Nat):Int),((eM tw a:Nat):Int))
 bx:∀ (k:Nat) (f:Int) (e:Nat),A.boxes[k]? = some (f,(e:Int))->B.boxes[k]? = some (f,((eM tw e:Nat):Int))
 ot:∀ (k e:Nat),A.outs[k]? = some (e:Int)->B.outs[k]? = some ((eM tw e:Nat):Int)
 ol:B.outs.length=A.outs.length
section
variable {A B:Wk} {tw:Nat->Nat}
theorem Wk.first_is(A:Wk):A.first=1+A.ins+A.boxes.length:=rfl
theorem Wk.knots_is(A:Wk):A.knots=1+A.ins+A.boxes.length+A.gates.length:=rfl
theorem Twn.case(T:Twn A B tw){k:Nat}(hk:k<A.knots):(k<A.first/\tw k=k)\/(A.first<=k/\k<=tw k/\tw k<A.first+B.gates.length):=by
 by_cases c:k<A.first
 ·exact .inl ⟨c,T.lo k c⟩
 ·obtain ⟨j,rfl⟩:∃ j,k=A.first+j:=⟨k-A.first,by lia⟩
  have h1:=A.knots_is
  have h2:=A.first_is
  have:=T.hi j (by lia)
  exact .inr ⟨by lia,this.1,this.2⟩
theorem Twn.inj(T:Twn A B tw){j k:Nat}(hj:j<A.knots)(hk:k<A.knots)(e:tw j=tw k):j=k:=by
 have h1:=A.knots_is
 have h2:=A.first_is
 rcases T.case hj with ⟨a1,a2⟩ | ⟨a1,a2,a3⟩<;>rcases T.case hk with ⟨b1,b2⟩ | ⟨b1,b2,b3⟩
 ·lia
 ·lia
 ·lia
 ·obtain ⟨x,rfl⟩:∃ x,j=A.first+x:=⟨j-A.first,by lia⟩
  obtain ⟨y,rfl⟩:∃ y,k=A.first+y:=⟨k-A.first,by lia⟩
  rcases Nat.lt_trichotomy x y with q | q | q
  ·have:=T.mo x y q (by lia);lia
  ·rw [q]
  ·have:=T.mo y x q (by lia);lia
theorem Twn.now(T:Twn A B tw):Wlk A.ins A.knots (nB A B) (k1 A B) (fun k=>k2 A B (tw k)):=by
 have h1:=A.knots_is
 have h2:=A.first_is
 have h3:=T.bl
 refine ⟨fun k hk=>?_,fun k hi hk=>?_,fun j k hj hk e=>?_,fun j k hj hi hk=>?_,fun j k ij hj ik hk e=>?_,fun k hk=>?_,?_⟩
 ·show k1 A B k=k2 A B (tw k)
  rw [T.lo k (by lia)]
  unfold k1 k2
  rw [if_pos (by lia),if_pos hk]
 ·show k1 A B k<k2 A B (tw k)
  unfold k1 k2
  rcases T.case hk with ⟨a1,a2⟩ | ⟨a1,a2,a3⟩
  ·rw [a2,if_pos (by lia),if_neg (by lia),if_pos (by lia)];lia
  ·rw [if_neg (by lia),if_neg (by lia),if_neg (by lia)];lia
 ·unfold k1 at e
  split at e<;>split at e<;>lia
 ·show k1 A B j≠k2 A B (tw k)
  unfold k1 k2
  rcases T.case hk with ⟨a1,a2⟩ | ⟨a1,a2,a3⟩
  ·rw [a2,if_neg (show ¬k<=A.ins by lia),if_pos (show k<=A.ins+B.boxes.length by lia)]
   split<;>lia
  ·rw [if_neg (show ¬tw k<=A.ins by lia),if_neg (show ¬tw k<=A.ins+B.boxes.length by lia)]
   split<;>lia
 ·have e':k2 A B (tw j)=k2 A B (tw k):=e
  refine T.inj hj hk ?_
  have c1:A.ins<tw j:=by rcases T.case hj with ⟨a1,a2⟩ | ⟨a1,a2,a3⟩<;>lia
  have c2:A.ins<tw k:=by rcases T.case hk with ⟨a1,a2⟩ | ⟨a1,a2,a3⟩<;>lia
  unfold k2 at e'
  rw [if_neg (show ¬tw j<=A.ins by lia),if_neg (show ¬tw k<=A.ins by lia)] at e'
  split at e'<;>split at e'<;>lia
 ·show k2 A B (tw k)<nB A B
  unfold k2 nB
  rcases T.case hk with ⟨a1,a2⟩ | ⟨a1,a2,a3⟩
  ·rw [a2]
   split
   ·lia
   ·rw [if_pos (by lia)];lia
  ·rw [if_neg (by lia),if_neg (by lia)];lia
 ·show k1 A B 0=0
  unfold k1
  rw [if_pos (Nat.zero_le _)]
theorem kn_mono{W:Wk}{x y:Nat}(h:x<y):kn W x<kn W y:=by
 unfold kn
 split<;>split<;>lia
theorem Wlk.through{ins K n n':Nat}{p t f:Nat->Nat}(w:Wlk ins K n p t)(mo:∀ x y,x<y->f x<f y)(hf:∀ x,x<n->f x<n')(h0:f 0=0):Wlk ins K n' (fun k=>f (p k)) (fun k=>f (t k)):=by
 have inj:∀ {x y},f x=f y->x=y:=fun {x y} h=>by
  rcases Nat.lt_trichotomy x y with q | q | q
  ·have:=mo _ _ q;lia
  ·exact q
  ·have:=mo _ _ q;lia
 exact ⟨fun k hk=>congrArg f (w.sh k hk),fun k a b=>mo _ _ (w.lt k a b),fun j k a b e=>w.pi j k a b (inj e),fun j k a b c e=>w.pt j k a b c (inj e),fun j k a b c d e=>w.ti j k a b c d (inj e),fun k hk=>hf _ (w.tn k hk),by show f (p 0)=0;rw [w.p0];exact h0⟩
def nG(ps:List (Int×Int)):List (Nat×Nat):=ps.map fun p=>(p.1.toNat,p.2.toNat)
theorem v_l(ps:List (Int×Int)):(nG ps).length=ps.length:=List.length_map _
theorem o_k{n:Nat}{ps:List (Int×Int)}(h:GateOk n ps):gI (nG ps)=ps:=by
 unfold gI nG
 rw [List.map_map]
 refine (List.map_congr_left fun p hp=>?_).trans (List.map_id ps)
 obtain ⟨k,hk⟩:=List.getElem?_of_mem hp
 obtain ⟨⟨a,_⟩,b,_⟩:=h k p hk
 show (((p.1.toNat:Nat):Int),((p.2.toNat:Nat):Int))=p
 rw [Int.toNat_of_nonneg a,Int.toNat_of_nonneg b]
theorem o_r{L:Nat}{ps:List (Int×Int)}(h:GateOk (1+L) ps):GtO L (nG ps):=fun k p hp=>by
 unfold nG at hp
 rw [List.getElem?_map] at hp
 obtain ⟨q,hq,rfl⟩:=Option.map_eq_some_iff.mp hp
 have:=h k q hq
 exact ⟨by show q.1.toNat<_;lia,by show q.2.toNat<_;lia⟩
theorem o_q{ps:List (Int×Int)}{k a b:Nat}(h:ps[k]? = some ((a:Int),(b:Int))):(nG ps)[k]? = some (a,b):=by
 unfold nG
 rw [List.getElem?_map,h]
 rfl
theorem p_w{j a b:Nat}(h:A.gates[j]? = some ((a:Int),(b:Int))):(bes A B).gates[j]? = some (((eM (k1 A B) a:Nat):Int),((eM (k1 A B) b:Nat):Int)):=by
 have hj:=(List.getElem?_eq_some_iff.mp h).1
 show (gt (two A B))[j]? = _
 unfold gt two
 rw [List.flatMap_cons,List.getElem?_append_left (by rw [List.length_map];exact hj),List.getElem?_map,h]
 show some (F1 A B (a:Int),F1 A B (b:Int))=_
 rw [F1_nat,F1_nat]
theorem p_x{i a b:Nat}(h:B.gates[i]? = some ((a:Int),(b:Int))):(bes A B).gates[A.gates.length+i]? = some (((eM (k2 A B) a:Nat):Int),((eM (k2 A B) b:Nat):Int)):=by
 have hj:=(List.getElem?_eq_some_iff.mp h).1
 show (gt (two A B))[A.gates.length+i]? = _
 unfold gt two
 rw [List.flatMap_cons,List.getElem?_append_right (by rw [List.length_map];exact Nat.le_add_right _ _),List.length_map,Nat.add_sub_cancel_left,List.flatMap_cons,List.getElem?_append_left (by rw [List.length_map];exact hj),List.getElem?_map,h]
 show some (F2 A B (a:Int),F2 A B (b:Int))=_
 rw [F2_nat,F2_nat]
theorem l_s{j e:Nat}{f:Int}(h:A.boxes[j]? = some (f,(e:Int))):(bes A B).boxes[j]? = some (f,((eM (k1 A B) e:Nat):Int)):=by
 have hj:=(List.getElem?_eq_some_iff.mp h).1
 show (bx (two A B))[j]? = _
 unfold bx two
 rw [List.flatMap_cons,List.getElem?_append_left (by rw [List.length_map];exact hj),List.getElem?_map,h]
 show some (f,F1 A B (e:Int))=_
 rw [F1_nat]
theorem l_t{j e:Nat}{f:Int}(h:B.boxes[j]? = some (f,(e:Int))):(bes A B).boxes[A.boxes.length+j]? = some (f,((eM (k2 A B) e:Nat):Int)):=by
 have hj:=(List.getElem?_eq_some_iff.mp h).1
 show (bx (two A B))[A.boxes.length+j]? = _
 unfold bx two
 rw [List.flatMap_cons,List.getElem?_append_right (by rw [List.length_map];exact Nat.le_add_right _ _),List.length_map,Nat.add_sub_cancel_left,List.flatMap_cons,List.getElem?_append_left (by rw [List.length_map];exact hj),List.getElem?_map,h]
 show some (f,F2 A B (e:Int))=_
 rw [F2_nat]
theorem now_good(T:Twn A B tw)(ok:(bes A B).Ok){j a b:Nat}(h:A.gates[j]? = some ((a:Int),(b:Int)))(hab:a/2<A.first+j/\b/2<A.first+j) :
  goodS (rE A.ins (k1 A B) (fun k=>k2 A B (tw k)) (A.first+j)) (A.ins+(A.boxes.length+B.boxes.length)) (nG (bes A B).gates) (2*k1 A B (A.first+j)) (2*k2 A B (tw (A.first+j))) (lvs (eM (k1 A B) a) (eM (k1 A B) b))=true /\
  CloS (givS (rE A.ins (k1 A B) (fun k=>k2 A B (tw k)) (A.first+j)) (lvs (eM (k1 A B) a) (eM (k1 A B) b))) (A.ins+(A.boxes.length+B.boxes.length)) (nG (bes A B).gates) (nB A B) (2*k1 A B (A.first+j)) (2*k2 A B (tw (A.first+j))):=by
 have h1:=A.knots_is
 have h2:=A.first_is
 have h3:=T.bl
 have hj:=(List.getElem?_eq_some_iff.mp h).1
 have hi:=T.hi j hj
 have hf:(bes A B).first=1+(A.ins+(A.boxes.length+B.boxes.length)):=by
  show 1+A.ins+(bes A B).boxes.length=_
  rw [x_p];lia
 have e1:k1 A B (A.first+j)=A.first+j+B.boxes.length:=by unfold k1;rw [if_neg (by lia)]
 have e2:k2 A B (tw (A.first+j))=tw (A.first+j)+A.boxes.length+A.gates.length:=by unfold k2;rw [if_neg (by lia),if_neg (by lia)]
 refine m_b T.now (L:=A.ins+(A.boxes.length+B.boxes.length)) (gs:=nG (bes A B).gates) (by have:=ok.gate;rw [hf] at this;exact o_r this) (by rw [v_l,w_t];unfold nB;lia) (by lia) (by lia) hab.1 hab.2 (by lia) ?_ ?_
 ·rw [e1,show A.first+j+B.boxes.length-(A.ins+(A.boxes.length+B.boxes.length))-1=j by lia]
  exact o_q (p_w h)
 ·show (nG (bes A B).gates)[k2 A B (tw (A.first+j))-(A.ins+(A.boxes.length+B.boxes.length))-1]? = some (eM (fun k=>k2 A B (tw k)) b,eM (fun k=>k2 A B (tw k)) a)
  rw [e2,show tw (A.first+j)+A.boxes.length+A.gates.length-(A.ins+(A.boxes.length+B.boxes.length))-1=A.gates.length+(tw (A.first+j)-A.first) by lia]
  have:=o_q (p_x (A:=A) (T.gt j a b h))
  rw [t_h,t_h] at this
  exact this
theorem Twn.next(T:Twn A B tw):Wlk A.ins A.knots (1+(2*A.ins+(A.boxes.length+B.boxes.length))+2*(A.gates.length+B.gates.length)) (fun k=>kn (bes A B) (k1 A B k)) (fun k=>kn (bes A B) (k2 A B (tw k))) :=
 T.now.through (fun x y h=>kn_mono h) (fun x hx=>by
  have hi:(bes A B).ins=A.ins:=rfl
  unfold kn
  unfold nB at hx
  rw [hi]
  split<;>lia) (by unfold kn;rw [if_pos (Nat.zero_le _)])
theorem h_z(T:Twn A B tw)(ok:(bes A B).Ok){j a b:Nat}(h:A.gates[j]? = some ((a:Int),(b:Int)))(hab:a/2<A.first+j/\b/2<A.first+j) :
  goodS (rE A.ins (fun k=>kn (bes A B) (k1 A B k)) (fun k=>kn (bes A B) (k2 A B (tw k))) (A.first+j)) (2*A.ins+(A.boxes.length+B.boxes.length)) (nG (y_m (bes A B)++y_k (bes A B))) (2*kn (bes A B) (k1 A B (A.first+j))) (2*kn (bes A B) (k2 A B (tw (A.first+j)))) (lvs (eM (fun k=>kn (bes A B) (k1 A B k)) a) (eM (fun k=>kn (bes A B) (k1 A B k)) b))=true /\
  CloS (givS (rE A.ins (fun k=>kn (bes A B) (k1 A B k)) (fun k=>kn (bes A B) (k2 A B (tw k))) (A.first+j)) (lvs (eM (fun k=>kn (bes A B) (k1 A B k)) a) (eM (fun k=>kn (bes A B) (k1 A B k)) b))) (2*A.ins+(A.boxes.length+B.boxes.length)) (nG (y_m (bes A B)++y_k (bes A B))) (1+(2*A.ins+(A.boxes.length+B.boxes.length))+2*(A.gates.length+B.gates.length)) (2*kn (bes A B) (k1 A B (A.first+j))) (2*kn (bes A B) (k2 A B (tw (A.first+j)))):=by
 have h1:=A.knots_is
 have h2:=A.first_is
 have h3:=T.bl
 have hj:=(List.getElem?_eq_some_iff.mp h).1
 have hi:=T.hi j hj
 have hb:=x_p A B
 have hgl:=w_t A B
 have hin:(bes A B).ins=A.ins:=rfl
 have nl:(y_m (bes A B)).length=A.gates.length+B.gates.length:=by unfold y_m;rw [List.length_map,hgl]
 have tl:(y_k (bes A B)).length=A.gates.length+B.gates.length:=by unfold y_k;rw [List.length_map,hgl]
 have e1:kn (bes A B) (k1 A B (A.first+j))=A.first+j+B.boxes.length+A.ins:=by unfold kn k1;rw [if_neg (show ¬A.first+j<=A.ins+A.boxes.length by lia),if_neg (by lia),hin]
 have e2:kn (bes A B) (k2 A B (tw (A.first+j)))=tw (A.first+j)+A.boxes.length+A.gates.length+A.ins:=by unfold kn k2;rw [if_neg (show ¬tw (A.first+j)<=A.ins by lia),if_neg (show ¬tw (A.first+j)<=A.ins+B.boxes.length by lia),if_neg (by lia),hin]
 have nowG:∀ {i x y:Nat},(bes A B).gates[i]? = some ((x:Int),(y:Int))->(nG (y_m (bes A B)++y_k (bes A B)))[i]? = some (eM (kn (bes A B)) x,eM (kn (bes A B)) y):=fun {i x y} hx=>by
  have hil:=(List.getElem?_eq_some_iff.mp hx).1
  refine o_q ?_
  rw [List.getElem?_append_left (by rw [nl];lia)]
  unfold y_m
  rw [List.getElem?_map,hx]
  show some (neF (bes A B) (x:Int),neF (bes A B) (y:Int))=_
  rw [o_u,o_u]
 refine m_b T.next (L:=2*A.ins+(A.boxes.length+B.boxes.length)) (gs:=nG (y_m (bes A B)++y_k (bes A B))) (by have:=nextOk ok;rw [hb,hin] at this;exact o_r this) (by rw [v_l,List.length_append,nl,tl];lia) (by lia) (by lia) hab.1 hab.2 (by show _<kn (bes A B) (k1 A B (A.first+j));lia) ?_ ?_
 ·show (nG (y_m (bes A B)++y_k (bes A B)))[kn (bes A B) (k1 A B (A.first+j))-(2*A.ins+(A.boxes.length+B.boxes.length))-1]? = some (eM (fun k=>kn (bes A B) (k1 A B k)) a,eM (fun k=>kn (bes A B) (k1 A B k)) b)
  rw [e1,show A.first+j+B.boxes.length+A.ins-(2*A.ins+(A.boxes.length+B.boxes.length))-1=j by lia]
  have:=nowG (p_w (B:=B) h)
  rw [t_h,t_h] at this
  exact this
 ·show (nG (y_m (bes A B)++y_k (bes A B)))[kn (bes A B) (k2 A B (tw (A.first+j)))-(2*A.ins+(A.boxes.length+B.boxes.length))-1]? = some (eM (fun k=>kn (bes A B) (k2 A B (tw k))) b,eM (fun k=>kn (bes A B) (k2 A B (tw k))) a)
  rw [e2,show tw (A.first+j)+A.boxes.length+A.gates.length+A.ins-(2*A.ins+(A.boxes.length+B.boxes.length))-1=A.gates.length+(tw (A.first+j)-A.first) by lia]
  have:=nowG (p_x (A:=A) (T.gt j a b h))
  rw [t_h,t_h,t_h,t_h] at this
  exact this
end
open PySem
section
variable {n:Nat} {L Ls:List Nat} {R:Nat->Nat}
theorem Uf.z0(u:Uf n L R)(h:0<n):R 0=0:=by
 have:=u.least (e:=0) (j:=0) h h rfl
 lia
end
section
variable {n L a b:Nat} {L0 Ls ls:List Nat} {gs:List (Nat×Nat)} {R:Nat->Nat}
theorem half_cx{x y:Nat}:x/2=y/2↔x=y\/x=y^^^1:=by
 have h1:=x_v y
 have h2:=j_l y
 constructor
 ·intro h;lia
 ·rintro (rfl | rfl)
  ·rfl
  ·exact h1
end
theorem gI_snoc(gs:List (Nat×Nat))(p:Nat×Nat):gI (gs++[p])=gI gs++[((p.1:Int),(p.2:Int))]:=by unfold gI;rw [List.map_append];rfl
theorem o_j(gs:List (Nat×Nat)):(gI gs).length=gs.length:=List.length_map _
theorem PrsR.getS{H:Hp}{g:Addr}{rs:List Addr}{gs:List (Nat×Nat)}(h:PrsR H g rs (gI gs)){k:Nat}{p:Nat×Nat}(hk:gs[k]? = some p):∃ r,rs[k]? = some r/\H r=some (.tup [.int (p.1:Int),.int (p.2:Int)]):=by
 have e:(gI gs)[k]? = some ((p.1:Int),(p.2:Int)):=by unfold gI;rw [List.getElem?_map,hk];rfl
 exact pairedGet' (R:=fun r (p:Int×Int)=>H r=some (.tup [.int p.1,.int p.2])) h.2 e
theorem PrsR.lenS{H:Hp}{g:Addr}{rs:List Addr}{gs:List (Nat×Nat)}(h:PrsR H g rs (gI gs)):rs.length=gs.length:=by rw [Paired.length h.2,o_j]
theorem PrsR.pushS{H H1:Hp}{b t:Addr}{rs:List Addr}{gs:List (Nat×Nat)}{p:Nat×Nat}(h:PrsR H b rs (gI gs))(s:Same H H1)(ht:H1 t=some (.tup [.int (p.1:Int),.int (p.2:Int)])):PrsR (upd H1 b (.lst (rs.map V.ref++[.ref t]))) b (rs++[t]) (gI (gs++[p])):=by
 have hb:=s _ _ h.1
 have ne:∀ {r:Addr} {xs:List V},H1 r=some (.tup xs)->r≠b:=fun e z=>by rw [z,hb] at e;cases e
 refine ⟨by rw [z_d,List.map_append];rfl,?_⟩
 rw [gI_snoc]
 refine x_g (by rw [z_r (ne ht)];exact ht) (z_w (fun r p e=>?_) h.2)
 have e1:=s _ _ e
 rw [z_r (ne e1)]
 exact e1
theorem at_ref{rs:List Addr}{k:Nat}{r:Addr}(h:rs[k]? = some r):atI (rs.map V.ref) (k:Int)=some (.ref r):=v_x (by rw [List.getElem?_map,h];rfl)
theorem w_l{s rest:TS}{D:Ends}{σ:St}{H:Hp}(M:St->Hp->Prop)(h:∀ R:Ends,(∀ σ J,M σ J->R.nx σ J)->s R σ H)(h2:∀ σ J,M σ J->rest D σ J):tSeq s rest D σ H:=h { D with nx:=rest D } h2
end L2
namespace L2
open PySem PySem.Spec PyProof.Rows
open AutoSeq1 (wpAny_loadPart')
section
variable {prog:Program} {w:World} {A:Around} {E:Value->Shared->Prop} {s:Shared}
theorem j_z{it t:Addr}{i:Nat}{items}{x:Value}{Q:Value->Shared->Prop}(hit:s.heap.IsTupleIter it t i)(ht:s.heap.IsTuple t items)(hx:items[i]? = some x)
  (hQ:∀ h',h'.IsTupleIter it t (i+1)->Heap.SameBut it s.heap h'->Q x { s with heap:=h' }):wpAny (model prog w) A (Builtin.SmallTypes.nextOf (.ref it)) Q E s:=by
 obtain ⟨o,ho,hc,hd⟩:=id hit
 obtain ⟨ol,hol,_,nl,hdl⟩:=ht
 unfold Builtin.SmallTypes.nextOf
 refine wpAny_bind (wpAny_callSpecial?_slot (name:=Str.ofString "__next__") hit.typeIs PySem.F.slot_tuple_iterator_next
  (wpAny_call_entry PySem.F.slot_tuple_iterator_next hit.typeIs PySem.F.entry_tuple_iterator_next ?_ (PySem.F.args_tuple_iterator_next_1 _)))
 show wpAny _ _ (field (.ref it) 0 >>= _) _ _ s
 refine wpAny_bind (wpAny_field ho hd (x:=.ref t) rfl ?_)
 show wpAny _ _ (if (Value.ref t == Value.none)=true then _ else _) _ _ s
 rw [if_neg (show ¬((Value.ref t == Value.none)=true) from Bool.false_ne_true)]
 show wpAny _ _ (field (.ref it) 1 >>= _) _ _ s
 refine wpAny_bind (wpAny_field ho hd (x:=.int i 0) rfl ?_)
 show wpAny _ _ (seqItems? (.ref t) >>= _) _ _ s
 refine wpAny_bind (wpAny_seqItems hol hdl ?_)
 simp only [Int.toNat_natCast,hx]
 refine wpAny_bind (wpAny_setField ho hd (by simp) (wpAny_pure ⟨x,rfl,wpAny_pure (hQ _ ?_ (Heap.SameBut.update ..))⟩))
 exact ⟨_,Heap.get?_update_self _ ho (Obj.isFreed_of_fields (Obj.data_mapFields hd _)),(Obj.cls_mapFields ..).trans hc,by rw [Obj.data_mapFields hd];simp [rawInt]⟩
theorem q_h{it t:Addr}{i:Nat}{items}{Q:Value->Shared->Prop}(hh:A.handled=none)(hit:s.heap.IsTupleIter it t i)(ht:s.heap.IsTuple t items)(hx:items[i]? = none)
  (hE:∀ h' e,Heap.ExtBut it s.heap h'->(∃ o,h'.get? e=some o/\o.cls = .type "StopIteration")->E (.ref e) { s with heap:=h' }):wpAny (model prog w) A (Builtin.SmallTypes.nextOf (.ref it)) Q E s:=by
 obtain ⟨o,ho,hc,hd⟩:=id hit
 obtain ⟨ol,hol,_,nl,hdl⟩:=ht
 unfold Builtin.SmallTypes.nextOf
 refine wpAny_bind (wpAny_callSpecial?_slot (name:=Str.ofString "__next__") hit.typeIs PySem.F.slot_tuple_iterator_next
  (wpAny_call_entry PySem.F.slot_tuple_iterator_next hit.typeIs PySem.F.entry_tuple_iterator_next ?_ (PySem.F.args_tuple_iterator_next_1 _)))
 show wpAny _ _ (field (.ref it) 0 >>= _) _ _ s
 refine wpAny_bind (wpAny_field ho hd (x:=.ref t) rfl ?_)
 show wpAny _ _ (if (Value.ref t == Value.none)=true then _ else _) _ _ s
 rw [if_neg (show ¬((Value.ref t == Value.none)=true) from Bool.false_ne_true)]
 show wpAny _ _ (field (.ref it) 1 >>= _) _ _ s
 refine wpAny_bind (wpAny_field ho hd (x:=.int i 0) rfl ?_)
 show wpAny _ _ (seqItems? (.ref t) >>= _) _ _ s
 refine wpAny_bind (wpAny_seqItems hol hdl ?_)
 simp only [Int.toNat_natCast,hx]
 refine wpAny_bind (wpAny_rule (wpAny_bind (wpAny_setField ho hd (by simp) ?_)))
 show wpAny _ _ (newExc (.type "StopIteration") [] >>= _) _ _ _
 refine wpAny_bind ?_
 simp only [newExc,newTuple]
 refine wpAny_bind (wpAny_newObj_type ?_ (by size_fits))
 refine wpAny_bind (m:=firstArgMember _ _) (wpAny_of_eq (a:=Value.none) (by first | rfl | (simp only [firstArgMember];rfl)) ?_)
 refine wpAny_newObj_type ?_ (by size_fits)
 simp only [raiseNew]
 refine wpAny_bind (wpAny_handled ?_)
 first | rw [show A.in1.handled=none from hh] | rw [hh]
 refine wpAny_bind (wpAny_pure (wpAny_throw ?_))
 exact hE _ _ (((Heap.SameBut.update ..).extBut.push _).push _) ⟨_,Heap.get?_push_size _ rfl,rfl⟩
end
theorem o_h{prog:Program}{w:World}{A:Around}(hh:A.handled=none)(it t:Addr)(hne:t≠it)(items:Array Value):Draws prog w A it [it,t] items.size (fun i v=>items[i]? = some v) (fun i h=>h.IsTupleIter it t i/\h.IsTuple t items) where
 live:=fun _ _ st=>let ⟨o,ho,_⟩:=st.1;⟨o,ho⟩
 frame:=fun _ _ _ st hk=>⟨st.1.at fun o e=>hk it (by simp) o e,st.2.at fun o e=>hk t (by simp) o e⟩
 item:=fun i s Q E hi st hQ=>by
  refine j_z st.1 st.2 (x:=items[i]) (by simp [hi]) fun h' hit' hs'=>?_
  exact hQ _ h' s.toks (by simp [hi]) ⟨hit',st.2.at fun o e=>hs'.extBut t o hne e⟩ hs'
 done:=fun s Q E st hE=>q_h hh st.1 st.2 (by simp) hE
set_option maxHeartbeats 1000000 in
theorem m_r(l:Addr)(items:Array Value)(n:Nat)(dct:Option Addr)(sl:Array (Option Value)) :
  Meets (Builtin.«enumerate.__new__» ⟨[.type "enumerate",.ref l],[]⟩) (fun _ R s=>s.heap.get? l=some { cls:=.type "tuple",dict:=dct,data:=.seq items n,slots:=sl } /\
   R (.ok (.ret (.ref (s.heap.push { cls:=.type "tuple_iterator",data:=.fields #[.ref l,.int 0 0] }).objs.size)))
    { s with heap:=(s.heap.push { cls:=.type "tuple_iterator",data:=.fields #[.ref l,.int 0 0] }).push { cls:=.type "enumerate",data:=.fields #[.none,.bool false,.ref s.heap.objs.size,rawInt 0,.none,.none] } }) :=
 .of_wp fun prog w A R s h=>by
  obtain ⟨hp,g,d,tk,os⟩:=s;obtain ⟨hl,h⟩:=h
  have hsub:=sub_enumerate
  have hL:Heap.IsTuple (Shared.heap ⟨hp,g,d,tk,os⟩) l items:=⟨_,hl,rfl,n,rfl⟩
  wp_walk using wpAny_loadPart' hl
  refine wpAny_stack_any fun st=>wpAny_pure ?_
  split
  ·rename_i c _ _ _ _ _
   cases (c == Value.type "enumerate")
   ·wp_walk using wpAny_loadPart' hl,wpAny_pyIter_tuple hL
    exact ⟨_,rfl,h⟩
   ·wp_walk using wpAny_loadPart' hl,wpAny_pyIter_tuple hL
    exact ⟨_,rfl,h⟩
  ·wp_walk using wpAny_loadPart' hl,wpAny_pyIter_tuple hL
   exact ⟨_,rfl,h⟩
theorem j_f{prog:Program}{w:World}{A:Around}{E:Value->Shared->Prop}{s:Shared}{l:Addr}{items:Array Value}{Q:Value->Shared->Prop}(hL:s.heap.IsTuple l items)
  (h:∀ h',IsEnum h' (s.heap.objs.size+1) s.heap.objs.size 0 .none->h'.IsTupleIter s.heap.objs.size l 0->h'.objs.size=s.heap.objs.size+2 ->
   (∀ b o,s.heap.get? b=some o->h'.get? b=some o)->Q (.ref (s.heap.objs.size+1)) { s with heap:=h' }):wpAny (model prog w) A (call (.type "enumerate") [.ref l]) Q E s:=by
 obtain ⟨⟨c,dct,dt,sl⟩,hl,hc,n,hd⟩:=hL
 replace hc:c = .type "tuple" := hc
 replace hd:dt = .seq items n:=hd
 subst hc hd
 refine callType_new PySem.F.called_enumerate (by decide) (PySem.F.typeCall_enumerate_1 _) (PySem.F.newCall_enumerate_1 _) (fun obj=>PySem.F.args_object_init_2 obj _) PySem.F.entry_enumerate_new (m_r l items n dct sl) ⟨hl,?_⟩
 have hz:(s.heap.push { cls:=.type "tuple_iterator",data:=.fields #[.ref l,.int 0 0] }).objs.size=s.heap.objs.size+1:=Heap.size_push ..
 show _/\_
 rw [hz]
 have he:IsEnum ((s.heap.push { cls:=.type "tuple_iterator",data:=.fields #[.ref l,.int 0 0] }).push
   { cls:=.type "enumerate",data:=.fields #[.none,.bool false,.ref s.heap.objs.size,rawInt 0,.none,.none] }) (s.heap.objs.size+1) s.heap.objs.size 0 .none:=by
  have:=Heap.get?_push_size (s.heap.push { cls:=.type "tuple_iterator",data:=.fields #[.ref l,.int 0 0] })
   (o:={ cls:=.type "enumerate",data:=.fields #[.none,.bool false,.ref s.heap.objs.size,rawInt 0,.none,.none] }) rfl
  rw [hz] at this;exact this
 refine ⟨⟨_,he,rfl⟩,h _ he ⟨_,Heap.get?_push_of_some _ (Heap.get?_push_size _ rfl),rfl,rfl⟩ (by rw [Heap.size_push,hz]) fun b o x=>Heap.get?_push_of_some _ (Heap.get?_push_of_some _ x)⟩
def Itet(K : PySem.W.Frag)(a : Addr) : It :=
  ⟨fun i H => ∃ xs x, SqT K H a xs /\ xs[i]? = some x,
   fun i H v H' => ∃ p x, v = .ref p /\ H p = none /\ H' = upd H p (.tup [.int (i : Int), x]) /\ ∀ xs, SqT K H a xs -> xs[i]? = some x,
   fun i H => ∃ xs, SqT K H a xs /\ i = xs.length⟩
theorem i_o{P:Program}{w:World}{K:PySem.W.Frag}{elts:List Expr}{kk:Nat}{pos:Pos}(a e it:Addr)(hne:e≠it) :
  Turn P w K (.Tuple elts kk pos) (Itet K a) [e,it] e (fun i h=>(∃ old,IsEnum h e it (i:Int) old)/\h.IsTupleIter it a i) where
 mem:=by simp
 obj:=fun i h st c hc=>by
  obtain ⟨⟨old,h1⟩,⟨o4,e4,c4,d4⟩⟩:=st
  have hc':c=e\/c=it:=by simpa using hc
  rcases hc' with rfl | rfl
  ·exact ⟨_,h1,fun v q=>by cases q⟩
  ·exact ⟨o4,e4,fun v q=>by rw [d4] at q;cases q⟩
 keep:=fun i h h' st k=>by
  obtain ⟨⟨old,h1⟩,h2⟩:=st
  exact ⟨⟨old,k e (by simp) _ h1⟩,h2.at fun o q=>k it (by simp) o q⟩
 item:=by
  intro X hP hw hK hc i pins s σ H E I hf st hg
  subst hP hw hK
  obtain ⟨xs,x,hq,hx⟩:=hg
  obtain ⟨its,rv,p1,hz1⟩:=I.tuple hq
  obtain ⟨u1,hu1,ru1⟩:=rv.get hx
  obtain ⟨⟨old,se⟩,si⟩:=st
  have hl1:=rv.length
  have hil:=(List.getElem?_eq_some_iff.mp hx).1
  have hai:a≠it:=fun q=>by
   obtain ⟨o,ho,hc1,_⟩:=si
   obtain ⟨o2,ho2,hc2,_⟩:=p1
   rw [q,ho] at ho2
   cases ho2
   rw [hc1] at hc2
   injection hc2 with hc2
   exact absurd hc2 (by decide)
  have hea:e∉[it,a]:=fun q=>by
   have q':e=it\/e=a:=by simpa using q
   rcases q' with q | q
   ·exact hne q
   ·obtain ⟨o2,ho2,hc2,_⟩:=p1
    rw [<-q,se] at ho2
    cases ho2
    injection hc2 with hc2
    exact absurd hc2 (by decide)
  refine wpAny_pyNext_enum_itemD (o_h (A:=X.A.in1) (show X.A.in1.handled=none from I.ok.hd hc) it a hai its.toArray) se ⟨si,p1⟩ (by simp;lia) hne hea fun v h' tk hv b1 b2 b3 b4 hk=>?_
  have hv':v=u1:=by
   have:its[i]? = some v:=by simpa using hv
   rw [hu1] at this
   exact (Option.some.inj this).symm
  subst hv'
  have lt:∀ {c o},s.heap.get? c=some o->c≠s.heap.objs.size:=fun z=>Nat.ne_of_lt (Heap.lt_size z)
  have I0:Inv X pins σ (upd H s.heap.objs.size (.tup [.int (i:Int),x])) { s with heap:=s.heap.push { cls:=.type "tuple",data:=.seq #[.int i tk,v] },toks:=tk+1 } :=
   I.laid (a:=s.heap.objs.size) (o:=.tup [.int (i:Int),x]) (t':=tk+1) (fun b u z=>Heap.get?_push_of_some _ z) (Nat.le_refl _) ⟨zl2,[.int i tk,v],.cons ⟨_,rfl⟩ (.cons ru1 .nil),_,Heap.get?_push_size _ rfl,rfl,_,rfl⟩
  have hnone:∀ c∈[e,it],(upd H s.heap.objs.size (.tup [.int (i:Int),x])) c=none:=fun c hc'=>by
   have hne':c≠s.heap.objs.size:=by
    have hc'':c=e\/c=it:=by simpa using hc'
    rcases hc'' with rfl | rfl
    ·exact lt se
    ·obtain ⟨_,z,_⟩:=si;exact lt z
   rw [z_r hne']
   exact (hf c hc').1
  have hf':∀ c∈[e,it],FpOk X pins (upd H s.heap.objs.size (.tup [.int (i:Int),x])) c:=fun c hc'=>⟨hnone c hc',(hf c hc').2⟩
  have kk1:∀ c o,c∉[e,it]->(s.heap.push { cls:=.type "tuple",data:=.seq #[.int i tk,v] }).get? c=some o->h'.get? c=some o:=fun c o hn z=>by
   rcases Heap.get?_push_cases z with ⟨rfl,rfl⟩ | z'
   ·exact b3
   ·exact hk c o (fun q=>hn (by simp [q])) (fun q=>hn (by simp [q])) z'
  have I1:=I0.turnedL (h':=h') (t':=tk+1) (ch:=[e,it]) kk1 hf'
  refine ⟨_,rfl,wpAny_letOwnedTupleGo_enum b1 fun h2 c1 c2=>?_⟩
  have I2:=I1.turnedL (h':=h2) (t':=tk+1) (ch:=[e]) (fun c o hn z=>(c2.2 c (fun q=>hn (by simp [q]))).trans z) (fun c hc'=>hf' c (by rw [List.mem_singleton.mp hc'];simp))
  refine ⟨.ref s.heap.objs.size,_,I2,rfl,⟨_,x,rfl,I.hok.fresh (Nat.le_refl _),rfl,fun xs' q=>by rw [I.tuple_inj q hq];exact hx⟩,⟨⟨v,?_⟩,b2.1.at fun o z=>(c2.2 it (Ne.symm hne)).trans z⟩,hnone⟩
  rw [show ((i+1:Nat):Int)=(i:Int)+1 by lia]
  exact c1
 done:=by
  intro X hP hw hK hc i pins s σ H E I hf st hg
  subst hP hw hK
  obtain ⟨xs,hq,hx⟩:=hg
  obtain ⟨its,rv,p1,hz1⟩:=I.tuple hq
  have l1:=rv.length
  obtain ⟨⟨old,se⟩,si⟩:=st
  have hai:a≠it:=fun q=>by
   obtain ⟨o,ho,hc1,_⟩:=si
   obtain ⟨o2,ho2,hc2,_⟩:=p1
   rw [q,ho] at ho2
   cases ho2
   rw [hc1] at hc2
   injection hc2 with hc2
   exact absurd hc2 (by decide)
  obtain ⟨f0,f1,f2,f3,f4,f5⟩:=hf it (by simp)
  have hi:i=its.toArray.size:=by simp;lia
  rw [hi] at si
  exact wpAny_pyNext_enum_endD (o_h (A:=X.A.in1) (show X.A.in1.handled=none from I.ok.hd hc) it a hai its.toArray) se ⟨si,p1⟩ fun h' eb=>⟨rfl,I.turned (t':=s.toks) (fun b o hb z=>eb b o hb z) f0 f1 f3 f4 f5⟩
 self:=fun _ _ _ _ _ st h=>by
  obtain ⟨⟨old,h1⟩,_⟩:=st
  exact wpAny_pyIter_enum h1 h
def iEnumT(K:PySem.W.Frag)(ta:TA):TI:=fun σ H R=>ta σ H fun vs H1=>∃ a,vs=[.ref a]/\(∃ xs,SqT K H1 a xs)/\R (Itet K a) H1
theorem p_j{X:Cx}{elts:List Expr}{kk:Nat}{tpos:Pos}{a:Expr}{ta:TA}{p pos:Pos}(hg:Gl X "enumerate")(hm:X.mg "enumerate" = none)(ha:PA X [a] ta)(hs:starEach [a] X.env=[(false,eval a X.env)]:=by rfl) :
  PI X (.Tuple elts kk tpos) (.Call (.Name "enumerate" p) [a] [] pos) (iEnumT X.K ta):=by
 intro pins s σ H R I h
 refine Call_ (t_f I hg hm PyProof.Rows.boot_enumerate (PyProof.Rows.callWith_type1 (thn (ha pos pins s σ H _ I h) fun us s1 ⟨vs,H1,I1,r1,q1⟩=>?_) hs rfl))
 obtain ⟨l1,e,⟨xs,hq1⟩,q⟩:=q1
 subst e
 cases r1 with
 | cons r rr =>
  cases rr
  cases r
  obtain ⟨its1,rv1,p1,hz1⟩:=I1.tuple hq1
  refine j_f p1 fun h' he hit hsz hk=>wpAny_pyIter_enum he ?_
  refine ⟨_,[s1.heap.objs.size+1,s1.heap.objs.size],_,_,H1,rfl,I1.kept (t':=s1.toks) hk,i_o l1 _ _ (Nat.succ_ne_self _),⟨⟨_,he⟩,hit⟩,fun c hc=>?_,q⟩
  have hc':c=s1.heap.objs.size+1\/c=s1.heap.objs.size:=by simpa using hc
  have hle : @LE.le Nat _ s1.heap.objs.size c:=by
   rcases hc' with rfl | rfl
   ·exact Nat.le_add_right _ _
   ·exact Nat.le_refl _
  exact I1.fpOk hle (I1.hok.fresh hle)
theorem h_f{K:PySem.W.Frag}{a:Addr}{xs:List V}{g:TG}{tb:TS}{D:Ends}{σ:St}{H:Hp}(Pv:Nat->St->Hp->Prop)(h0:Pv 0 σ H)(hl:∀ i σ H,i<=xs.length->Pv i σ H->SqT K H a xs)
  (hs:∀ i x p σ H,xs[i]? = some x->Pv i σ H->H p=none->g (.ref p) σ (upd H p (.tup [.int (i:Int),x])) fun σ2 H2=>tb { D with nx:=Pv (i+1),ct:=Pv (i+1),bk:=D.nx } σ2 H2) (hd:∀ σ H,Pv xs.length σ H->D.nx σ H) :
  ∃ W:Nat->Nat->St->Hp->Prop,(∃ m,W 0 m σ H)/\∀ i m σ H,W i m σ H ->
   ((Itet K a).stop i H/\D.nx σ H)\/((Itet K a).go i H/\∃ N:St->Hp->Prop,(∀ σ' H',N σ' H'->∃ m',m'<m/\W (i+1) m' σ' H')/\∀ x H',(Itet K a).yld i H x H'->g x σ H' fun σ2 H2=>tb { D with nx:=N,ct:=N,bk:=D.nx } σ2 H2):=by
 refine ⟨fun i m σ H=>m=xs.length-i/\i<=xs.length/\Pv i σ H,⟨xs.length,by simp,Nat.zero_le _,h0⟩,?_⟩
 rintro i m σ H ⟨rfl,hi,p⟩
 have q1:=hl i σ H hi p
 by_cases hlt:i<xs.length
 ·refine .inr ⟨⟨xs,xs[i],q1,by simp [hlt]⟩,Pv (i+1),fun σ' H' p'=>⟨xs.length-(i+1),by lia,rfl,hlt,p'⟩,fun v H' y=>?_⟩
  obtain ⟨pp,x,rfl,hp,rfl,e1⟩:=y
  exact hs i x pp σ H (e1 xs q1) p hp
 ·have e:i=xs.length:=by lia
  subst e
  exact .inl ⟨⟨xs,q1,rfl⟩,hd σ H p⟩
open PySem
theorem pairedUnmap{α β γ:Type}{R:α->β->Prop}{f:γ->β}:∀ {zs:List γ} {xs:List α},Paired R xs (zs.map f)->Paired (fun x z=>R x (f z)) xs zs
 | [],_,.nil=>.nil
 | _::_,_,.cons a b=>.cons a (pairedUnmap b)
theorem two_ex{α:Type}{l:List α}(h:l.length=2):∃ a b,l=[a,b]:=by
 obtain ⟨a,r,rfl⟩:=List.exists_cons_of_length_eq_add_one h
 obtain ⟨b,r,rfl⟩:=List.exists_cons_of_length_eq_add_one (Nat.succ.inj h)
 exact ⟨a,b,by rw [List.eq_nil_of_length_eq_zero (Nat.succ.inj (Nat.succ.inj h))]⟩
def sqO(b:Bool)(xs:List V):HO:=if b=true then .lst xs else .tup xs
theorem r_b{K:PySem.W.Frag}{ta:TA}{a:Addr}{xs:List V}{b:Bool}{g:TG}{tb:TS}{D:Ends}{σ:St}{H:Hp}(hta:∀ N:List V->Hp->Prop,N [.ref a] H->ta σ H N)(hp:H a=some (sqO b xs))(Pv:Nat->St->Hp->Prop)(h0:Pv 0 σ H)(hl:∀ i σ J,Pv i σ J->J a=some (sqO b xs))
  (hs:∀ i x p σ H,xs[i]? = some x->Pv i σ H->H p=none->g (.ref p) σ (upd H p (.tup [.int (i:Int),x])) fun σ2 H2=>tb { D with nx:=Pv (i+1),ct:=Pv (i+1),bk:=D.nx } σ2 H2) (hd:∀ σ H,Pv xs.length σ H->D.nx σ H) :
  tFor (fun σ H R=>iEnum K ta σ H R\/iEnumT K ta σ H R) g tb D σ H:=by
 cases b with
 | true=>exact .inl (hta _ ⟨a,rfl,⟨xs,SqL.of hp⟩,for_enum Pv h0 (fun i σ J _ h=>SqL.of (hl i σ J h)) hs hd⟩)
 | false=>exact .inr (hta _ ⟨a,rfl,⟨xs,SqT.of hp⟩,h_f Pv h0 (fun i σ J _ h=>SqT.of (hl i σ J h)) hs hd⟩)
theorem s_o{K:PySem.W.Frag}{te:TE}{a:Addr}{xs:List V}{b:Bool}{g:TG}{tb:TS}{D:Ends}{σ:St}{H:Hp}(hta:∀ N:V->Hp->Prop,N (.ref a) H->te σ H N)(hp:H a=some (sqO b xs))(Pv:Nat->St->Hp->Prop)(h0:Pv 0 σ H)(hl:∀ i σ J,Pv i σ J->J a=some (sqO b xs))
  (hs:∀ i x σ H,xs[i]? = some x->Pv i σ H->g x σ H fun σ2 H2=>tb { D with nx:=Pv (i+1),ct:=Pv (i+1),bk:=D.nx } σ2 H2) (hd:∀ σ H,Pv xs.length σ H->D.nx σ H) :
  tFor (fun σ H R=>iList K te σ H R\/iTup K te σ H R) g tb D σ H:=by
 cases b with
 | true=>exact .inl (hta _ ⟨a,rfl,⟨xs,SqL.of hp⟩,t_k Pv h0 (fun i σ J _ h=>SqL.of (hl i σ J h)) hs hd⟩)
 | false=>exact .inr (hta _ ⟨a,rfl,⟨xs,SqT.of hp⟩,h_g Pv h0 (fun i σ J _ h=>SqT.of (hl i σ J h)) hs hd⟩)
abbrev Stp:=Nat×Nat×List Nat
def StpR(H:Hp)(r:Addr)(s:Stp):Prop:=∃ lt,H r=some (.tup [.str "stands",.int (s.1:Int),.int (s.2.1:Int),.ref lt])/\H lt=some (.tup (z_g s.2.2))
structure StpsA(H:Hp)(p:Addr)(ss:List Stp):Prop where
 ex:∃ b rs,H p=some (sqO b (rs.map V.ref))/\Paired (fun r s=>StpR H r s) rs ss
structure PrsA(H:Hp)(p:Addr)(ps:List (Nat×Nat)):Prop where
 ex:∃ b rs,H p=some (sqO b (rs.map V.ref))/\Paired (fun r (q:Nat×Nat)=>H r=some (.tup [.int (q.1:Int),.int (q.2:Int)])) rs ps
inductive KRun (n:Nat):(Nat->Nat)->List (Nat×Nat)->(Nat->Nat)->Prop
 | nil (R:Nat->Nat):KRun n R [] R
 | cons {R R':Nat->Nat} {a b:Nat} {r:List (Nat×Nat)} (ha:a<2*n) (hb:b<2*n) (h1:R a≠R b) (h2:R a≠R b^^^1) (h:KRun n (jn R (min (R a) (R b)) (max (R a) (R b))) r R'):KRun n R ((a,b)::r) R'
inductive RunS (L n:Nat) (gs:List (Nat×Nat)):(Nat->Nat)->List Stp->(Nat->Nat)->Prop
 | nil (R:Nat->Nat):RunS L n gs R [] R
 | cons {R R':Nat->Nat} {a b:Nat} {ls:List Nat} {r:List Stp} (ha:a<2*n) (hb:b<2*n) (hl:∀ e∈ls,e<2*n) (l6:ls.length<=6) (hg:goodS R L gs a b ls=true) (hc:CloS (givS R ls) L gs n a b) (h1:R a≠R b) (h2:R a≠R b^^^1)
   (h:RunS L n gs (jn R (min (R a) (R b)) (max (R a) (R b))) r R'):RunS L n gs R ((a,b,ls)::r) R'
theorem StpsA.same{H H':Hp}{p:Addr}{ss:List Stp}(h:StpsA H p ss)(s:Same H H'):StpsA H' p ss:=by
 obtain ⟨b,rs,h1,h2⟩:=h.ex
 exact ⟨b,rs,s _ _ h1,z_w (fun r x q=>let ⟨lt,e1,e2⟩:=q;⟨lt,s _ _ e1,s _ _ e2⟩) h2⟩
theorem PrsA.same{H H':Hp}{p:Addr}{ps:List (Nat×Nat)}(h:PrsA H p ps)(s:Same H H'):PrsA H' p ps:=by
 obtain ⟨b,rs,h1,h2⟩:=h.ex
 exact ⟨b,rs,s _ _ h1,z_w (fun r x q=>s _ _ q) h2⟩
def q_a:Sp:=fun vs H Q _=>∃ (r:Addr) (q:Nat×Nat) (k:Nat),vs=[.ref r,.int (k:Int)]/\H r=some (.tup [.int (q.1:Int),.int (q.2:Int)])/\q.1<2*k/\q.2<2*k/\Q (.bl true) H
def k_w:Sp:=fun vs H Q _=>∃ (w b g o:Addr) (W:Wk),vs=[.ref w]/\IsWkA H w b g o W/\Q (.int (W.knots:Nat)) H
def w_r(C:Addr):Sp:=fun vs H Q _=>∃ (net g:Addr) (rs:List Addr) (L n:Nat) (gs:List (Nat×Nat)),vs=[.ref net]/\IsNet H net g rs (L:Int) (gI gs)/\n=1+L+gs.length/\n<=1000/\∀ o l H',H l=none->Same H H'->ClsAt C H' o l n id->Q (.ref o) H'
def p_t(C tp:Addr)(lp:Pos)(lq:Str):Sp:=fun vs H Q _=>∃ (net g o l p:Addr) (rs:List Addr) (L n:Nat) (gs:List (Nat×Nat)) (R R':Nat->Nat) (ss:List Stp) (wh:Str),vs=[.ref net,.ref o,.ref p,.str wh]/\IsNet H net g rs (L:Int) (gI gs)/\GtO L gs/\n=1+L+gs.length/\n<=1000/\ClsAt C H o l n R/\StpsA H p ss /\
 g≠l/\p≠l/\RunS L n gs R ss R'/\H tp=some (.tbl lp lq)/\∀ H',Ch l H H'->ClsAt C H' o l n R'->Q .non H'
def StartsOk(W:Wk)(kept:List (Nat×Nat)):Prop:=∀ q∈kept,seF W (q.1:Int)=seF W (q.2:Int)/\0<=seF W (q.1:Int)/\seF W (q.1:Int)<2*((1+W.ins+W.gates.length:Nat):Int)
def NextsOk(W:Wk)(kept:List (Nat×Nat))(ss:List Stp):Prop:=∃ R1 R2,KRun (1+(2*W.ins+W.boxes.length)+2*W.gates.length) id (kept.map fun q=>(eM (kn W) q.1,eM (kn W) q.2)) R1/\RunS (2*W.ins+W.boxes.length) (1+(2*W.ins+W.boxes.length)+2*W.gates.length) (nG (y_m W++y_k W)) R1 ss R2 /\
 ∀ q∈kept,∃ x y:Nat,teF W (q.1:Int)=(x:Int)/\teF W (q.2:Int)=(y:Int)/\x<2*(1+(2*W.ins+W.boxes.length)+2*W.gates.length)/\y<2*(1+(2*W.ins+W.boxes.length)+2*W.gates.length)/\R2 x=R2 y
def NowsOk(W:Wk)(kept goals:List (Nat×Nat))(ss:List Stp):Prop:=∃ R1 R2,KRun W.knots id kept R1/\RunS (W.ins+W.boxes.length) W.knots (nG W.gates) R1 ss R2/\∀ q∈goals,q.1<2*W.knots/\q.2<2*W.knots/\R2 q.1=R2 q.2
def n_z(C tp:Addr)(lp:Pos)(lq:Str):Sp:=fun vs H Q _=>∃ (w b g o kp sp:Addr) (W:Wk) (kept:List (Nat×Nat)),vs=[.ref w,.ref kp,.ref sp]/\IsWkA H w b g o W/\W.Ok/\W.knots<=400/\PrsA H kp kept/\StpsA H sp []/\StartsOk W kept/\H tp=some (.tbl lp lq)/\∀ H',Same H H'->Q .non H'
def k_x(C tp:Addr)(lp:Pos)(lq:Str):Sp:=fun vs H Q _=>∃ (w b g o kp sp:Addr) (W:Wk) (kept:List (Nat×Nat)) (ss:List Stp),vs=[.ref w,.ref kp,.ref sp]/\IsWkA H w b g o W/\W.Ok/\W.knots<=400/\PrsA H kp kept/\StpsA H sp ss/\NextsOk W kept ss/\H tp=some (.tbl lp lq)/\∀ H',Same H H'->Q .non H'
def f_j(C tp:Addr)(lp:Pos)(lq:Str):Sp:=fun vs H Q _=>∃ (w b g o kp gp sp:Addr) (W:Wk) (kept goals:List (Nat×Nat)) (ss:List Stp),vs=[.ref w,.ref kp,.ref gp,.ref sp]/\IsWkA H w b g o W/\W.Ok/\W.knots<=400/\PrsA H kp kept/\PrsA H gp goals/\StpsA H sp ss/\NowsOk W kept goals ss/\H tp=some (.tbl lp lq)/\∀ H',Same H H'->Q .non H'
def PaperA(H:Hp)(p:Addr)(kept:List (Nat×Nat))(s2 s3:List Stp):Prop:=∃ a1 a2 a3 a4,H p=some (.tup [.ref a1,.ref a2,.ref a3,.ref a4])/\PrsA H a1 kept/\StpsA H a2 []/\StpsA H a3 s2/\StpsA H a4 s3
def PaperOk(W:Wk)(goals kept:List (Nat×Nat))(s2 s3:List Stp):Prop:=(∀ q∈kept,q.1<2*W.knots/\q.2<2*W.knots)/\StartsOk W kept/\NextsOk W kept s2/\NowsOk W kept goals s3
def p_s(C tp:Addr)(lp:Pos)(lq:Str):Sp:=fun vs H Q _=>∃ (w b g o gp p:Addr) (W:Wk) (kept goals:List (Nat×Nat)) (s2 s3:List Stp),vs=[.ref w,.ref gp,.ref p]/\IsWkA H w b g o W/\W.Ok/\W.knots<=400/\PrsA H gp goals/\PaperA H p kept s2 s3/\PaperOk W goals kept s2 s3/\H tp=some (.tbl lp lq)/\∀ H',Same H H'->Q .non H'
def rwE(f:Nat->Nat)(n:Nat):List Nat:=(List.range n).map fun k=>2*f k
theorem y_t(f:Nat->Nat)(n:Nat):(rwE f n).length=n:=by unfold rwE;rw [List.length_map,List.length_range]
theorem r_r{f:Nat->Nat}{n k:Nat}(h:k<n):(rwE f n)[k]? = some (2*f k):=by unfold rwE;rw [List.getElem?_map,List.getElem?_range h];rfl
def eW(Ls:List Nat)(e:Nat):Nat:=Ls.getD (e/2) 0^^^(e%2)
theorem w_a{f:Nat->Nat}{n e:Nat}(h:e/2<n):eW (rwE f n) e=eM f e:=by
 unfold eW eM
 rw [List.getD_eq_getElem?_getD,r_r h]
 rcases (show e%2=0\/e%2=1 by lia) with q | q
 ·rw [q,Nat.xor_zero];rfl
 ·rw [q];exact q_s
def u_e:Sp:=fun vs H Q _=>∃ (l:Addr) (Ls:List Nat) (e:Nat),vs=[.ref l,.int (e:Int)]/\H l=some (.lst (z_g Ls))/\e/2<Ls.length/\Q (.int ((eW Ls e:Nat):Int)) H
def u_u:Sp:=fun vs H Q _=>∃ (l w b g o:Addr) (Ls:List Nat) (W:Wk) (gs:List (Nat×Nat)),vs=[.ref l,.ref w]/\H l=some (.lst (z_g Ls))/\IsWkA H w b g o W/\W.gates=gI gs/\(∀ q∈gs,q.1/2<Ls.length/\q.2/2<Ls.length)/\gs.length<=1000 /\
 ∀ p rs H',H p=none->Same H H'->PrsR H' p rs (gI (gs.map fun q=>(eW Ls q.1,eW Ls q.2)))->Q (.ref p) H'
def n_v:Sp:=fun vs H Q _=>∃ (w b g o:Addr) (W:Wk),vs=[.ref w]/\IsWkA H w b g o W/\W.Ok/\W.knots<=400 /\
 ∀ (p t0 t1 t2 n1 n2 g1 g2 r1 r2 x1 x2:Addr) (v1 v2:List V) (m1 m2:Int) H',Same H H'->H' p=some (.lst [.ref t0,.ref t1,.ref t2])->H' t1=some (.tup [.ref n1,.ref r1,.ref x1])->H' t2=some (.tup [.ref n2,.ref r2,.ref x2]) ->
  H' n1=some (.tup [.int m1,.ref g1])->H' g1=some (.lst v1)->1+m1+(v1.length:Int)=((1+(2*W.ins+W.boxes.length)+2*W.gates.length:Nat):Int)->H' n2=some (.tup [.int m2,.ref g2])->H' g2=some (.lst v2)->1+m2+(v2.length:Int)=(W.knots:Int) ->
  H' r1=some (.lst (z_g (rwE (kn W) W.knots)))->H' r2=some (.lst (z_g (rwE id W.knots)))->Q (.ref p) H'
def s_d:Sp:=fun vs H Q _=>∃ (w b g o w' b' g' o':Addr) (A B:Wk),vs=[.ref w,.ref w']/\IsWkA H w b g o A/\IsWkA H w' b' g' o' B/\A.Ok/\B.Ok/\A.ins=B.ins/\A.knots<=100/\B.knots<=100 /\
 ∀ (t j bj gj oj l l1 l2:Addr) H',Same H H'->H' t=some (.tup [.ref j,.ref l])->IsWkA H' j bj gj oj (bes A B)->H' l=some (.lst [.ref l1,.ref l2])->H' l1=some (.lst (z_g (rwE (k1 A B) A.knots)))->H' l2=some (.lst (z_g (rwE (k2 A B) B.knots)))->Q (.ref t) H'
def r_x:Sp:=fun vs H Q _=>∃ (l t:Addr) (Ls L0:List Nat) (R:Nat->Nat) (n a b:Nat),vs=[.ref l,.ref t]/\H l=some (.lst (z_g Ls))/\H t=some (.tup [.int (a:Int),.int (b:Int)])/\Uf n L0 R/\Lb n Ls R/\n<=1000/\0<n/\a<2*n/\b<2*n/\R a=a/\R b=b /\
 ∀ p H',Same H H'->H' p=some (.tup (z_g (lvs a b)))->Q (.ref p) H'
structure TwI(F:Nat)(gA:List (Nat×Nat))(k:Nat)(tw:Nat->Nat)(gs:List (Nat×Nat)):Prop where
 lo:∀ j,j<F->tw j=j
 hi:∀ j,j<k->F+j<=tw (F+j)/\tw (F+j)<F+gs.length
 mo:∀ i j,i<j->j<k->tw (F+i)<tw (F+j)
 gt:∀ j a b,j<k->gA[j]? = some (a,b)->gs[tw (F+j)-F]? = some (eM tw b,eM tw a)
 ok:∀ m p,gs[m]? = some p->p.1<2*(F+m)/\p.2<2*(F+m)
 kl:k<=gs.length
 l2:gs.length<=2*k
def twU(tw:Nat->Nat)(x v:Nat)(y:Nat):Nat:=if y=x then v else tw y
theorem s_j{tw:Nat->Nat}{x v y:Nat}(h:y≠x):twU tw x v y=tw y:=if_neg h
theorem k_z{tw:Nat->Nat}{x v e:Nat}(h:e/2≠x):eM (twU tw x v) e=eM tw e:=by unfold eM;rw [s_j h]
section
variable {F k:Nat} {gA gs:List (Nat×Nat)} {tw:Nat->Nat}
theorem TwI.start{F:Nat}{gA:List (Nat×Nat)}:TwI F gA 0 id []:=⟨fun _ _=>rfl,fun _ h=>absurd h (Nat.not_lt_zero _),fun _ _ _ h=>absurd h (Nat.not_lt_zero _),fun _ _ _ h=>absurd h (Nat.not_lt_zero _),fun m p h=>by simp at h,Nat.le_refl _,Nat.le_refl _⟩
theorem TwI.lt(h:TwI F gA k tw gs){x:Nat}(hx:x<F+k):tw x<F+gs.length:=by
 by_cases c:x<F
 ·rw [h.lo x c];lia
 ·obtain ⟨j,rfl⟩:∃ j,x=F+j:=⟨x-F,by lia⟩
  exact (h.hi j (by lia)).2
theorem TwI.step(h:TwI F gA k tw gs){a b:Nat}{ex:List (Nat×Nat)}(hg:gA[k]? = some (a,b))(ha:a/2<F+k)(hb:b/2<F+k)(hA:∀ j c d,gA[j]? = some (c,d)->c/2<F+j/\d/2<F+j)(hex:ex=[]\/ex=[(eM tw b,eM tw a)]) :
  TwI F gA (k+1) (twU tw (F+k) (F+(gs++ex).length)) (gs++ex++[(eM tw b,eM tw a)]):=by
 have la:=h.lt ha
 have lb:=h.lt hb
 have kl:=h.kl
 have l2:=h.l2
 have exl:ex.length<=1:=by rcases hex with rfl | rfl<;>simp
 have bq:∀ m,gs.length<=m->eM tw b<2*(F+m)/\eM tw a<2*(F+m):=fun m hm=>by unfold eM;lia
 have hl:(gs++ex++[(eM tw b,eM tw a)]).length=gs.length+ex.length+1:=by rw [List.length_append,List.length_append];rfl
 have hl':(gs++ex).length=gs.length+ex.length:=List.length_append
 refine ⟨fun j hj=>?_,fun j hj=>?_,fun i j hij hj=>?_,fun j c d hj hcd=>?_,fun m p hp=>?_,by rw [hl];lia,by rw [hl];lia⟩
 ·rw [s_j (by lia)];exact h.lo j hj
 ·by_cases c:j=k
  ·subst c
   unfold twU
   rw [if_pos rfl,hl,hl']
   lia
  ·rw [s_j (by lia),hl]
   have:=h.hi j (by lia)
   lia
 ·by_cases c:j=k
  ·subst c
   rw [s_j (by lia)]
   unfold twU
   rw [if_pos rfl,hl']
   have:=h.hi i hij
   lia
  ·rw [s_j (by lia),s_j (by lia)]
   exact h.mo i j hij (by lia)
 ·obtain ⟨c1,c2⟩:=hA j c d hcd
  by_cases q:j=k
  ·subst q
   rw [hg] at hcd
   cases hcd
   rw [k_z (by lia),k_z (by lia)]
   unfold twU
   rw [if_pos rfl,Nat.add_sub_cancel_left,List.getElem?_append_right (Nat.le_refl _),Nat.sub_self]
   rfl
  ·rw [k_z (by lia),k_z (by lia),s_j (by lia)]
   have h1:=h.gt j c d (by lia) hcd
   have h2:=(List.getElem?_eq_some_iff.mp h1).1
   rw [List.append_assoc,List.getElem?_append_left h2]
   exact h1
 ·by_cases c:m<gs.length
  ·rw [List.append_assoc,List.getElem?_append_left c] at hp
   exact h.ok m p hp
  ·have hp':p=(eM tw b,eM tw a):=by
    have hm:=List.mem_of_getElem? hp
    rw [List.append_assoc,List.getElem?_append_right (by lia)] at hp
    have:=List.mem_of_getElem? hp
    rcases List.mem_append.mp this with q | q
    ·rcases hex with rfl | rfl
     ·cases q
     ·exact List.mem_singleton.mp q
    ·exact List.mem_singleton.mp q
   subst hp'
   exact bq m (by lia)
end
theorem s_v(f:Nat->Nat)(n:Nat):rwE f (n+1)=rwE f n++[2*f n]:=by unfold rwE;rw [List.range_succ,List.map_append];rfl
theorem r_q{f g:Nat->Nat}{n:Nat}(h:∀ k,k<n->f k=g k):rwE f n=rwE g n:=by
 unfold rwE
 exact List.map_congr_left fun k hk=>by rw [h k (List.mem_range.mp hk)]
def twB(A:Wk)(tw:Nat->Nat)(gs:List (Nat×Nat)):Wk:=⟨A.ins,A.boxes.map fun b=>(b.1,((eM tw b.2.toNat:Nat):Int)),gI gs,A.outs.map fun e=>((eM tw e.toNat:Nat):Int)⟩
theorem twB_is{A:Wk}(ok:A.Ok){tw:Nat->Nat}{gs:List (Nat×Nat)}(h:TwI A.first (nG A.gates) A.gates.length tw gs)(h12:A.gates.length<=12):Twn A (twB A tw gs) tw/\(twB A tw gs).Ok:=by
 have h1:=A.knots_is
 have h2:=A.first_is
 have kl:=h.kl
 have l2:=h.l2
 have bl:(twB A tw gs).boxes.length=A.boxes.length:=List.length_map _
 have gl:(twB A tw gs).gates.length=gs.length:=o_j gs
 have hf:(twB A tw gs).first=A.first:=by show 1+A.ins+(twB A tw gs).boxes.length=_;rw [bl];exact h2.symm
 have hk:(twB A tw gs).knots=A.first+gs.length:=by show (twB A tw gs).first+(twB A tw gs).gates.length=_;rw [hf,gl]
 have lt:∀ {e:Nat},e<2*A.knots->eM tw e<2*(A.first+gs.length):=fun {e} he=>by
  have:=h.lt (x:=e/2) (by lia)
  unfold eM
  lia
 have b1:=ok.ins
 have b2:=ok.boxes
 have b3:=ok.outs
 refine ⟨⟨rfl,bl,h.lo,fun j hj=>?_,h.mo,fun j a b hj=>?_,fun k f e hk'=>?_,fun k e hk'=>?_,List.length_map _⟩,⟨b1,by rw [bl];exact b2,by rw [gl];lia,by show (List.map _ A.outs).length<=20;rw [List.length_map];exact b3,fun m p hp=>?_,fun b hb=>?_,fun o ho=>?_⟩⟩
 ·rw [gl];exact h.hi j hj
 ·have:=h.gt j a b (List.getElem?_eq_some_iff.mp hj).1 (o_q hj)
  show (gI gs)[_]? = _
  unfold gI
  rw [List.getElem?_map,this]
  rfl
 ·show (List.map _ A.boxes)[k]? = _
  rw [List.getElem?_map,hk']
  rfl
 ·show (List.map _ A.outs)[k]? = _
  rw [List.getElem?_map,hk']
  rfl
 ·have hp2:(gI gs)[m]? = some p:=hp
  unfold gI at hp2
  rw [List.getElem?_map] at hp2
  obtain ⟨q,hq,rfl⟩:=Option.map_eq_some_iff.mp hp2
  obtain ⟨c1,c2⟩:=h.ok m q hq
  rw [hf]
  exact ⟨⟨by show (0:Int)<=((q.1:Nat):Int);lia,by show ((q.1:Nat):Int)<_;lia⟩,by show (0:Int)<=((q.2:Nat):Int);lia,by show ((q.2:Nat):Int)<_;lia⟩
 ·obtain ⟨b0,hb0,rfl⟩:=List.mem_map.mp (show b∈A.boxes.map fun b=>(b.1,((eM tw b.2.toNat:Nat):Int)) from hb)
  obtain ⟨c1,c2,c3⟩:=ok.box b0 hb0
  have:=lt (e:=b0.2.toNat) (by lia)
  rw [hk]
  exact ⟨c1,by show (0:Int)<=((eM tw b0.2.toNat:Nat):Int);lia,by show ((eM tw b0.2.toNat:Nat):Int)<_;lia⟩
 ·obtain ⟨o0,ho0,rfl⟩:=List.mem_map.mp (show o∈A.outs.map fun e=>((eM tw e.toNat:Nat):Int) from ho)
  obtain ⟨c2,c3⟩:=ok.out o0 ho0
  have:=lt (e:=o0.toNat) (by lia)
  rw [hk]
  exact ⟨by lia,by lia⟩
theorem w_c(a b:List Nat):z_g (a++b)=z_g a++z_g b:=by unfold z_g;rw [List.map_append]
theorem o_s{Ls:List Nat}{m:Nat}(h:m<=Ls.length):cutV (z_g Ls) none (some (m:Int))=z_g (Ls.take m):=by
 unfold cutV
 rw [HT.sIx_none,HT.sIx_nat,z_o,Nat.min_eq_left h,List.drop_zero,Nat.sub_zero]
 unfold z_g
 rw [List.map_take]
theorem k_p{f:Nat->Nat}{m n:Nat}(h:m<=n):(rwE f n).take m=rwE f m:=by
 unfold rwE
 rw [<-List.map_take,List.take_range,Nat.min_eq_left h]
theorem l_k(f:Nat->Nat)(n m:Nat):rwE f (n+m)=rwE f n++(List.range m).map fun k=>2*f (n+k):=by
 unfold rwE
 rw [List.range_add,List.map_append,List.map_map]
 rfl
theorem kn_rwE(W:Wk):rwE (kn W) W.knots=rwE id W.first++(List.range W.gates.length).map fun k=>2*(W.first+W.ins+k):=by
 have h2:=W.first_is
 show rwE (kn W) (W.first+W.gates.length)=_
 rw [l_k,r_q (f:=kn W) (g:=id) (n:=W.first) fun k hk=>by unfold kn;rw [if_pos (by lia)];rfl]
 congr 1
 refine List.map_congr_left fun k _=>?_
 unfold kn
 rw [if_neg (by lia)]
 lia
def rw3(ins nb ng m bo go:Nat):List Nat:=rwE id (1+ins)++((List.range nb).map fun k=>2*(1+ins+bo+k))++((List.range ng).map fun k=>2*(1+ins+m+go+k))
theorem rw3_of{f:Nat->Nat}{ins nb ng m bo go:Nat}(h1:∀ k,k<1+ins->f k=k)(h2:∀ k,k<nb->f (1+ins+k)=1+ins+bo+k)(h3:∀ k,k<ng->f (1+ins+nb+k)=1+ins+m+go+k):rwE f (1+ins+nb+ng)=rw3 ins nb ng m bo go:=by
 unfold rw3
 rw [l_k,l_k,r_q (f:=f) (g:=id) h1]
 congr 1
 ·congr 1
  exact List.map_congr_left fun k hk=>by rw [h2 k (List.mem_range.mp hk)]
 ·exact List.map_congr_left fun k hk=>by rw [h3 k (List.mem_range.mp hk)]
theorem rw3_A(A B:Wk):rwE (k1 A B) A.knots=rw3 A.ins A.boxes.length A.gates.length (A.boxes.length+B.boxes.length) 0 0:=by
 refine rw3_of (fun k hk=>?_) (fun k hk=>?_) (fun k hk=>?_)<;>unfold k1
 ·rw [if_pos (by lia)]
 ·rw [if_pos (by lia)];lia
 ·rw [if_neg (by lia)];lia
theorem rw3_B{A B:Wk}(hi:A.ins=B.ins):rwE (k2 A B) B.knots=rw3 A.ins B.boxes.length B.gates.length (A.boxes.length+B.boxes.length) A.boxes.length A.gates.length:=by
 rw [B.knots_is,<-hi]
 refine rw3_of (fun k hk=>?_) (fun k hk=>?_) (fun k hk=>?_)<;>unfold k2
 ·rw [if_pos (by lia)]
 ·rw [if_neg (by lia),if_pos (by lia)];lia
 ·rw [if_neg (by lia),if_neg (by lia)];lia
open PySem
section
variable {ins K n:Nat} {p t:Nat->Nat}
theorem rE_2p(W:Wlk ins K n p t){j m:Nat}(hj:j<=K)(hm:m<K):rE ins p t j (2*p m)=2*p m:=by
 have:=rE_p W (j:=j) (e:=2*m) hj (by lia)
 unfold eM at this
 rw [show 2*m/2=m by lia,show 2*m%2=0 by lia] at this
 exact this
theorem t_m(W:Wlk ins K n p t){m:Nat}(hm:m<K)(hi:ins<m):2*p m<2*n/\2*t m<2*n/\rE ins p t m (2*p m)≠rE ins p t m (2*t m)/\rE ins p t m (2*p m)≠rE ins p t m (2*t m)^^^1 /\
  jn (rE ins p t m) (min (rE ins p t m (2*p m)) (rE ins p t m (2*t m))) (max (rE ins p t m (2*p m)) (rE ins p t m (2*t m)))=rE ins p t (m+1):=by
 have lt:=W.lt m hi hm
 have tn:=W.tn m hm
 rw [rE_2p W (by lia) hm,g_x W hm hi,m_n,Nat.min_eq_left (by lia),Nat.max_eq_right (by lia)]
 exact ⟨by lia,by lia,by lia,by lia,g_w W hm hi⟩
theorem krun(W:Wlk ins K n p t):∀ (c m:Nat),ins<m->m+c<=K->KRun n (rE ins p t m) ((List.range' m c).map fun k=>(2*p k,2*t k)) (rE ins p t (m+c))
 | 0,m,_,_=>.nil _
 | c+1,m,hi,hk=>by
  obtain ⟨h1,h2,h3,h4,h5⟩:=t_m W (m:=m) (by lia) hi
  rw [List.range'_succ,List.map_cons]
  refine .cons h1 h2 h3 h4 ?_
  rw [h5]
  have:=krun W c (m+1) (by lia) (by lia)
  rw [show m+1+c=m+(c+1) by lia] at this
  exact this
theorem rruns(W:Wlk ins K n p t){L:Nat}{gs:List (Nat×Nat)}{lf:Nat->List Nat}:∀ (c m:Nat),ins<m->m+c<=K->(∀ k,m<=k->k<m+c->(lf k).length<=6/\(∀ e∈lf k,e<2*n)/\goodS (rE ins p t k) L gs (2*p k) (2*t k) (lf k)=true/\CloS (givS (rE ins p t k) (lf k)) L gs n (2*p k) (2*t k)) ->
  RunS L n gs (rE ins p t m) ((List.range' m c).map fun k=>(2*p k,2*t k,lf k)) (rE ins p t (m+c))
 | 0,m,_,_,_=>.nil _
 | c+1,m,hi,hk,hg=>by
  obtain ⟨h1,h2,h3,h4,h5⟩:=t_m W (m:=m) (by lia) hi
  obtain ⟨g1,g2,g3,g4⟩:=hg m (Nat.le_refl _) (by lia)
  rw [List.range'_succ,List.map_cons]
  refine .cons h1 h2 g2 g1 g3 g4 h3 h4 ?_
  rw [h5]
  have:=rruns W (L:=L) (gs:=gs) (lf:=lf) c (m+1) (by lia) (by lia) fun k a b=>hg k (by lia) (by lia)
  rw [show m+1+c=m+(c+1) by lia] at this
  exact this
end
def gaN(A:Wk)(k:Nat):Nat×Nat:=(nG A.gates).getD (k-A.first) (0,0)
def lfN(A:Wk)(p:Nat->Nat)(k:Nat):List Nat:=lvs (eM p (gaN A k).1) (eM p (gaN A k).2)
def kpN(A:Wk)(p t:Nat->Nat):List (Nat×Nat):=(List.range' (1+A.ins) A.boxes.length).map fun k=>(2*p k,2*t k)
def stN'(A:Wk)(p t:Nat->Nat):List Stp:=(List.range' A.first A.gates.length).map fun k=>(2*p k,2*t k,lfN A p k)
section
variable {A B:Wk} {tw:Nat->Nat}
theorem m_p{A:Wk}(ok:A.Ok){k:Nat}(h1:A.first<=k)(h2:k<A.first+A.gates.length):∃ a b:Nat,A.gates[k-A.first]? = some ((a:Int),(b:Int))/\gaN A k=(a,b)/\a/2<k/\b/2<k:=by
 have hl:k-A.first<A.gates.length:=by lia
 have hg:A.gates[k-A.first]? = some A.gates[k-A.first]:=List.getElem?_eq_getElem hl
 obtain ⟨⟨c1,c2⟩,c3,c4⟩:=ok.gate _ _ hg
 generalize A.gates[k-A.first]=x at hg c1 c2 c3 c4
 obtain ⟨xa,xb⟩:=x
 obtain ⟨a,rfl⟩:∃ a:Nat,xa=(a:Int):=⟨xa.toNat,by have:(0:Int)<=xa:=c1;lia⟩
 obtain ⟨b,rfl⟩:∃ b:Nat,xb=(b:Int):=⟨xb.toNat,by have:(0:Int)<=xb:=c3;lia⟩
 have c2':(a:Int)<2*((A.first:Int)+((k-A.first:Nat):Int)):=c2
 have c4':(b:Int)<2*((A.first:Int)+((k-A.first:Nat):Int)):=c4
 refine ⟨a,b,hg,?_,by lia,by lia⟩
 unfold gaN
 rw [List.getD_eq_getElem?_getD,o_q hg]
 rfl
theorem lf_lt{p:Nat->Nat}{n k K:Nat}(hp:∀ x,x<K->p x<n)(hk:k<=K){a b:Nat}(ha:a/2<k)(hb:b/2<k):∀ e∈lvs (eM p a) (eM p b),e<2*n:=fun e he=>by
 have h1:=hp (a/2) (by lia)
 have h2:=hp (b/2) (by lia)
 rcases (q_z he).1 with rfl | rfl<;>unfold eM<;>lia
theorem nows_ok(T:Twn A B tw)(okA:A.Ok)(ok:(bes A B).Ok){goals:List (Nat×Nat)}(hg:∀ q∈goals,∃ e,e/2<A.knots/\q=(eM (k1 A B) e,eM (fun k=>k2 A B (tw k)) e)):NowsOk (bes A B) (kpN A (k1 A B) fun k=>k2 A B (tw k)) goals (stN' A (k1 A B) fun k=>k2 A B (tw k)):=by
 have h1:=A.knots_is
 have h2:=A.first_is
 have hk:(bes A B).knots=nB A B:=by
  show 1+A.ins+(bes A B).boxes.length+(bes A B).gates.length=_
  rw [x_p,w_t]
  rfl
 have hL:(bes A B).ins+(bes A B).boxes.length=A.ins+(A.boxes.length+B.boxes.length):=by rw [x_p];rfl
 have W:=T.now
 have pl:∀ x,x<A.knots->k1 A B x<nB A B:=fun x hx=>by
  by_cases c:x<=A.ins
  ·rw [W.sh x c];exact W.tn x hx
  ·exact Nat.lt_trans (W.lt x (by lia) hx) (W.tn x hx)
 refine ⟨rE A.ins (k1 A B) (fun k=>k2 A B (tw k)) A.first,rE A.ins (k1 A B) (fun k=>k2 A B (tw k)) A.knots,?_,?_,fun q hq=>?_⟩
 ·rw [hk,<-p_l (ins:=A.ins) (p:=k1 A B) (t:=fun k=>k2 A B (tw k))]
  have:=krun W A.boxes.length (A.ins+1) (by lia) (by lia)
  rw [show A.ins+1+A.boxes.length=A.first by lia] at this
  unfold kpN
  rw [show 1+A.ins=A.ins+1 by lia]
  exact this
 ·rw [hk,hL]
  have:=rruns W (L:=A.ins+(A.boxes.length+B.boxes.length)) (gs:=nG (bes A B).gates) (lf:=lfN A (k1 A B)) A.gates.length A.first (by lia) (by lia) fun k a b=>by
   obtain ⟨x,y,e1,e2,e3,e4⟩:=m_p okA a b
   unfold lfN
   rw [e2]
   obtain ⟨j,rfl⟩:∃ j,k=A.first+j:=⟨k-A.first,by lia⟩
   rw [Nat.add_sub_cancel_left] at e1
   obtain ⟨g1,g2⟩:=now_good T ok e1 ⟨e3,e4⟩
   exact ⟨Nat.le_trans (q_y _ _) (by decide),lf_lt pl (by lia) e3 e4,g1,g2⟩
  exact this
 ·obtain ⟨e,he,rfl⟩:=hg q hq
  have l1:=pl _ he
  have l2:=W.tn _ he
  rw [hk]
  refine ⟨by show eM (k1 A B) e<_;unfold eM;lia,by show 2*k2 A B (tw (e/2))+e%2<2*nB A B;have:k2 A B (tw (e/2))<nB A B:=l2;lia,?_⟩
  show rE A.ins (k1 A B) (fun k=>k2 A B (tw k)) A.knots (eM (k1 A B) e)=rE A.ins (k1 A B) (fun k=>k2 A B (tw k)) A.knots (eM (fun k=>k2 A B (tw k)) e)
  rw [rE_p W (Nat.le_refl _) he,rE_t W (Nat.le_refl _) he]
theorem box_at{A:Wk}(ok:A.Ok){k:Nat}(h:k<A.boxes.length):∃ (f:Int) (e:Nat),A.boxes[k]? = some (f,(e:Int))/\(f=0\/f=1)/\e/2<A.knots:=by
 have hg:A.boxes[k]? = some A.boxes[k]:=List.getElem?_eq_getElem h
 obtain ⟨c1,c2,c3⟩:=ok.box _ (List.getElem_mem h)
 generalize A.boxes[k]=x at hg c1 c2 c3
 obtain ⟨f,xe⟩:=x
 obtain ⟨e,rfl⟩:∃ e:Nat,xe=(e:Int):=⟨xe.toNat,by have:(0:Int)<=xe:=c2;lia⟩
 have c3':(e:Int)<2*(A.knots:Int):=c3
 exact ⟨f,e,hg,c1,by lia⟩
theorem h_r{p t:Nat->Nat}{q:Nat×Nat}(h:q∈kpN A p t):∃ k,k<A.boxes.length/\q=(2*p (1+A.ins+k),2*t (1+A.ins+k)):=by
 unfold kpN at h
 obtain ⟨x,hx,rfl⟩:=List.mem_map.mp h
 obtain ⟨h1,h2⟩:=List.mem_range'_1.mp hx
 exact ⟨x-(1+A.ins),by lia,by rw [show 1+A.ins+(x-(1+A.ins))=x by lia]⟩
theorem kp_box(T:Twn A B tw){k:Nat}(hk:k<A.boxes.length):k1 A B (1+A.ins+k)=1+A.ins+k/\k2 A B (tw (1+A.ins+k))=1+A.ins+(A.boxes.length+k):=by
 have h2:=A.first_is
 have h3:=T.bl
 rw [T.lo _ (by lia)]
 unfold k1 k2
 rw [if_pos (by lia),if_neg (by lia),if_pos (by lia)]
 exact ⟨rfl,by lia⟩
theorem f_l(T:Twn A B tw)(okA:A.Ok)(ok:(bes A B).Ok):StartsOk (bes A B) (kpN A (k1 A B) fun k=>k2 A B (tw k)):=fun q hq=>by
 obtain ⟨k,hk,rfl⟩:=h_r hq
 obtain ⟨e1,e2⟩:=kp_box T hk
 obtain ⟨f,e,hb,hf,he⟩:=box_at okA hk
 have hbA:=l_s (B:=B) hb
 have hbB:=l_t (A:=A) (T.bx k f e hb)
 have hbl:=x_p A B
 have h3:=T.bl
 have hin:(bes A B).ins=A.ins:=rfl
 have seV:∀ {x:Nat} {r:Int×Int},(bes A B).boxes[x]? = some r->r.1=f->seF (bes A B) ((2*(1+A.ins+x):Nat):Int)=f:=fun {x r} hx hr=>by
  have hxl:=(List.getElem?_eq_some_iff.mp hx).1
  unfold seF
  rw [hin,if_neg (by lia),if_pos (by lia),show (((2*(1+A.ins+x):Nat):Int)/2-(A.ins:Int)-1).toNat=x by lia,List.getD_eq_getElem?_getD,hx]
  show (r.1+_)%2=f
  rw [hr]
  lia
 have s1:seF (bes A B) ((2*k1 A B (1+A.ins+k):Nat):Int)=f:=by rw [e1];exact seV hbA rfl
 have s2:seF (bes A B) ((2*k2 A B (tw (1+A.ins+k)):Nat):Int)=f:=by rw [e2];exact seV hbB rfl
 show seF (bes A B) ((2*k1 A B (1+A.ins+k):Nat):Int)=seF (bes A B) ((2*k2 A B (tw (1+A.ins+k)):Nat):Int)/\0<=seF (bes A B) ((2*k1 A B (1+A.ins+k):Nat):Int)/\seF (bes A B) ((2*k1 A B (1+A.ins+k):Nat):Int)<_
 rw [s1,s2]
 refine ⟨rfl,?_,?_⟩<;>lia
theorem nexts_ok(T:Twn A B tw)(okA:A.Ok)(ok:(bes A B).Ok):NextsOk (bes A B) (kpN A (k1 A B) fun k=>k2 A B (tw k)) (stN' A (fun k=>kn (bes A B) (k1 A B k)) fun k=>kn (bes A B) (k2 A B (tw k))):=by
 have h1:=A.knots_is
 have h2:=A.first_is
 have hbl:=x_p A B
 have hgl:=w_t A B
 have hin:(bes A B).ins=A.ins:=rfl
 have hn:1+(2*(bes A B).ins+(bes A B).boxes.length)+2*(bes A B).gates.length=1+(2*A.ins+(A.boxes.length+B.boxes.length))+2*(A.gates.length+B.gates.length):=by rw [hbl,hgl,hin]
 have hL:2*(bes A B).ins+(bes A B).boxes.length=2*A.ins+(A.boxes.length+B.boxes.length):=by rw [hbl,hin]
 have W:=T.next
 have pl:∀ x,x<A.knots->kn (bes A B) (k1 A B x)<1+(2*A.ins+(A.boxes.length+B.boxes.length))+2*(A.gates.length+B.gates.length):=fun x hx=>by
  by_cases c:x<=A.ins
  ·have:=W.sh x c
   have h:=W.tn x hx
   lia
  ·exact Nat.lt_trans (W.lt x (by lia) hx) (W.tn x hx)
 have tl:=W.tn
 refine ⟨rE A.ins (fun k=>kn (bes A B) (k1 A B k)) (fun k=>kn (bes A B) (k2 A B (tw k))) A.first,rE A.ins (fun k=>kn (bes A B) (k1 A B k)) (fun k=>kn (bes A B) (k2 A B (tw k))) A.knots,?_,?_,fun q hq=>?_⟩
 ·rw [hn,<-p_l (ins:=A.ins) (p:=fun k=>kn (bes A B) (k1 A B k)) (t:=fun k=>kn (bes A B) (k2 A B (tw k)))]
  have:=krun W A.boxes.length (A.ins+1) (by lia) (by lia)
  rw [show A.ins+1+A.boxes.length=A.first by lia] at this
  have e:((kpN A (k1 A B) fun k=>k2 A B (tw k)).map fun q:Nat×Nat=>(eM (kn (bes A B)) q.1,eM (kn (bes A B)) q.2))=(List.range' (A.ins+1) A.boxes.length).map fun k=>(2*kn (bes A B) (k1 A B k),2*kn (bes A B) (k2 A B (tw k))):=by
   unfold kpN
   rw [List.map_map,show 1+A.ins=A.ins+1 by lia]
   refine List.map_congr_left fun k _=>?_
   have ev:∀ x:Nat,eM (kn (bes A B)) (2*x)=2*kn (bes A B) x:=fun x=>by unfold eM;rw [show 2*x/2=x by lia,show 2*x%2=0 by lia];rfl
   show (eM (kn (bes A B)) (2*k1 A B k),eM (kn (bes A B)) (2*k2 A B (tw k)))=_
   rw [ev,ev]
  rw [e]
  exact this
 ·rw [hn,hL]
  exact rruns W (L:=2*A.ins+(A.boxes.length+B.boxes.length)) (gs:=nG (y_m (bes A B)++y_k (bes A B))) (lf:=lfN A fun k=>kn (bes A B) (k1 A B k)) A.gates.length A.first (by lia) (by lia) fun k a b=>by
   obtain ⟨x,y,e1,e2,e3,e4⟩:=m_p okA a b
   unfold lfN
   rw [e2]
   obtain ⟨j,rfl⟩:∃ j,k=A.first+j:=⟨k-A.first,by lia⟩
   rw [Nat.add_sub_cancel_left] at e1
   obtain ⟨g1,g2⟩:=h_z T ok e1 ⟨e3,e4⟩
   exact ⟨Nat.le_trans (q_y _ _) (by decide),lf_lt pl (by lia) e3 e4,g1,g2⟩
 ·obtain ⟨k,hk,rfl⟩:=h_r hq
  obtain ⟨e1,e2⟩:=kp_box T hk
  obtain ⟨f,e,hb,hf,he⟩:=box_at okA hk
  have hbA:=l_s (B:=B) hb
  have hbB:=l_t (A:=A) (T.bx k f e hb)
  have h3:=T.bl
  have teV:∀ {x y:Nat} {r:Int},(bes A B).boxes[x]? = some (r,(y:Int))->teF (bes A B) ((2*(1+A.ins+x):Nat):Int)=((eM (kn (bes A B)) y:Nat):Int):=fun {x y r} hx=>by
   have hxl:=(List.getElem?_eq_some_iff.mp hx).1
   unfold teF
   rw [hin,if_neg (by lia),if_neg (by lia),if_pos (by lia),show (((2*(1+A.ins+x):Nat):Int)/2-(A.ins:Int)-1).toNat=x by lia,List.getD_eq_getElem?_getD,hx]
   show xr (neF (bes A B) (y:Int)) _=_
   unfold xr
   rw [if_pos (by lia),o_u]
  have a1:=pl _ he
  have a2:=tl _ he
  refine ⟨eM (fun k=>kn (bes A B) (k1 A B k)) e,eM (fun k=>kn (bes A B) (k2 A B (tw k))) e,?_,?_,?_,?_,?_⟩
  ·show teF (bes A B) ((2*k1 A B (1+A.ins+k):Nat):Int)=_
   rw [e1,teV hbA,t_h]
  ·show teF (bes A B) ((2*k2 A B (tw (1+A.ins+k)):Nat):Int)=_
   rw [e2,teV hbB,t_h,t_h]
  ·rw [hn];show 2*kn (bes A B) (k1 A B (e/2))+e%2<_;lia
  ·rw [hn];show 2*kn (bes A B) (k2 A B (tw (e/2)))+e%2<_
   have:kn (bes A B) (k2 A B (tw (e/2)))<_:=a2
   lia
  ·rw [rE_p W (Nat.le_refl _) he,rE_t W (Nat.le_refl _) he]
theorem i_t{A B:Wk}(okA:A.Ok)(okB:B.Ok)(hi:A.ins=B.ins)(hb:A.boxes.length+B.boxes.length<=40)(hg:A.gates.length+B.gates.length<=2000)(ho:A.outs.length+B.outs.length<=20):(bes A B).Ok:=by
 have hbl:=x_p A B
 have hgl:=w_t A B
 have a1:=A.knots_is
 have a2:=A.first_is
 have b1:=B.knots_is
 have b2:=B.first_is
 have hf:(bes A B).first=1+A.ins+(A.boxes.length+B.boxes.length):=by show 1+A.ins+(bes A B).boxes.length=_;rw [hbl]
 have hk:((bes A B).knots:Int)=(nB A B:Int):=by
  show ((1+A.ins+(bes A B).boxes.length+(bes A B).gates.length:Nat):Int)=_
  rw [hbl,hgl]
  rfl
 refine ⟨okA.ins,by rw [hbl];exact hb,by rw [hgl];exact hg,?_,fun k x hx=>?_,fun x hx=>?_,fun x hx=>?_⟩
 ·show (ot (two A B)).length<=20
  unfold ot two
  simp
  lia
 ·rw [hf]
  have hx':(gt (two A B))[k]? = some x:=hx
  unfold gt two at hx'
  rw [List.flatMap_cons] at hx'
  by_cases c:k<A.gates.length
  ·rw [List.getElem?_append_left (by rw [List.length_map];exact c),List.getElem?_map] at hx'
   obtain ⟨y,hy,rfl⟩:=Option.map_eq_some_iff.mp hx'
   obtain ⟨⟨c1,c2⟩,c3,c4⟩:=okA.gate k y hy
   show (0<=F1 A B y.1/\F1 A B y.1<_)/\0<=F1 A B y.2/\F1 A B y.2<_
   unfold F1 leF
   refine ⟨⟨?_,?_⟩,?_,?_⟩<;>split<;>(try split)<;>lia
  ·rw [List.getElem?_append_right (by rw [List.length_map];exact Nat.le_of_not_lt c),List.length_map,List.flatMap_cons,List.flatMap_nil,List.append_nil,List.getElem?_map] at hx'
   obtain ⟨y,hy,rfl⟩:=Option.map_eq_some_iff.mp hx'
   have hy':B.gates[k-A.gates.length]? = some y:=hy
   obtain ⟨⟨c1,c2⟩,c3,c4⟩:=okB.gate _ y hy'
   show (0<=F2 A B y.1/\F2 A B y.1<_)/\0<=F2 A B y.2/\F2 A B y.2<_
   unfold F2 leF
   refine ⟨⟨?_,?_⟩,?_,?_⟩<;>split<;>(try split)<;>lia
 ·rw [hk]
  have hx':x∈bx (two A B):=hx
  unfold bx two at hx'
  rw [List.flatMap_cons,List.flatMap_cons,List.flatMap_nil,List.append_nil] at hx'
  rcases List.mem_append.mp hx' with h | h
  ·obtain ⟨y,hy,rfl⟩:=List.mem_map.mp h
   obtain ⟨c1,c2,c3⟩:=okA.box y hy
   exact ⟨c1,F1_bound c2 c3⟩
  ·obtain ⟨y,hy,rfl⟩:=List.mem_map.mp h
   obtain ⟨c1,c2,c3⟩:=okB.box y hy
   exact ⟨c1,F2_bound hi c2 c3⟩
 ·rw [hk]
  have hx':x∈ot (two A B):=hx
  unfold ot two at hx'
  rw [List.flatMap_cons,List.flatMap_cons,List.flatMap_nil,List.append_nil] at hx'
  rcases List.mem_append.mp hx' with h | h
  ·obtain ⟨y,hy,rfl⟩:=List.mem_map.mp h
   obtain ⟨c2,c3⟩:=okA.out y hy
   exact F1_bound c2 c3
  ·obtain ⟨y,hy,rfl⟩:=List.mem_map.mp h
   obtain ⟨c2,c3⟩:=okB.out y hy
   exact F2_bound hi c2 c3
end
def LbU(n:Nat)(Ls:List Nat)(R:Nat->Nat):Prop:=Lb n Ls R/\∃ L0,Uf n L0 R
theorem LbU.start(n:Nat):LbU n (List.range (2*n)) id:=⟨Lb.start n,_,Uf.init n⟩
theorem LbU.join{ins K n:Nat}{p t:Nat->Nat}(W:Wlk ins K n p t){m:Nat}{Ls:List Nat}(h:LbU n Ls (rE ins p t m))(hm:m<K)(hi:ins<m):Ls.getD (2*p m) 0≠Ls.getD ((2*t m)^^^1) 0/\LbU n (jl Ls (2*p m) (2*t m)) (rE ins p t (m+1)):=by
 obtain ⟨h1,L0,u⟩:=h
 obtain ⟨l1,l2,c1,c2,c3⟩:=t_m W hm hi
 have lt:=W.lt m hi hm
 have tn:=W.tn m hm
 refine ⟨fun e=>c2 ((Lb.none u h1 l1 l2).mp e),?_⟩
 have:=(Lb.jl u h1 l1 l2 c2).2 c1
 rw [c3] at this
 refine ⟨this,?_⟩
 have j:=u.join (lo:=2*p m) (hi:=2*t m) (rE_2p W (by lia) hm) (g_x W hm hi) (by lia) (by lia)
 rw [g_w W hm hi] at j
 exact ⟨_,j⟩
def r_y:Sp:=fun vs H Q _=>∃ (w b g o rw l1 l2 tl net gn gl pl:Addr) (rs:List Addr) (A:Wk) (f1 f2 tw G:Nat->Nat) (KB NG n:Nat) (m:Int) (v:List V),vs=[.ref w,.ref rw,.ref tl,.ref net,.ref gl,.ref pl]/\IsWkA H w b g o A/\A.Ok/\H rw=some (.lst [.ref l1,.ref l2])/\H l1=some (.lst (z_g (rwE f1 A.knots)))/\H l2=some (.lst (z_g (rwE f2 KB)))/\H tl=some (.lst (z_g (rwE tw A.knots))) /\
 H net=some (.tup [.int m,.ref gn])/\H gn=some (.lst v)/\1+m+(v.length:Int)=(n:Int)/\n<=1000/\A.knots<=100/\0<n/\H gl=some (.lst (z_g (rwE G NG)))/\(∀ x,x<A.knots->f1 x<NG/\tw x<KB/\f2 (tw x)<NG)/\Wlk A.ins A.knots n (fun k=>G (f1 k)) (fun k=>G (f2 (tw k))) /\
 PrsR H pl rs (gI (kpN A f1 fun k=>f2 (tw k)))/\∀ p (rs':List Addr) H',H p=none->Same H H'->H' p=some (.lst (rs'.map V.ref))->Paired (fun r s=>StpR H' r s) rs' (stN' A (fun k=>G (f1 k)) fun k=>G (f2 (tw k)))->Q (.ref p) H'
def s_g:Sp:=fun vs H Q _=>∃ (p:Addr) (Ls:List Nat) (one other:Nat),vs=[.ref p,.int (one:Int),.int (other:Int)]/\H p=some (.lst (z_g Ls))/\Ls.length<=2000/\one<Ls.length/\other<Ls.length/\one^^^1<Ls.length/\other^^^1<Ls.length /\
 (Ls.getD one 0=Ls.getD (other^^^1) 0->Q .non H)/\(Ls.getD one 0≠Ls.getD (other^^^1) 0->∀ q H',H q=none->Same H H'->H' q=some (.lst (z_g (jl Ls one other)))->Q (.ref q) H')
open PySem
def absI(c:Int):Int:=if c<0 then -c else c
def rwM(cell i:Int)(k:Nat):Int :=
 let x:=(absI cell%1000003+7919*(0+(k:Int))*(0+(k:Int))+104729*i+31*(0+(k:Int))+5)*48271%2147483647
 (x*x%2147483629+x/7)%10^(6:Int).toNat
def rwD(cell i:Int):Nat->Int×List Int
 | 0=>(absI cell,[])
 | k+1=>if 10^(18:Int).toNat<=absI cell/\0<(rwD cell i k).1 then ((rwD cell i k).1/10^(4:Int).toNat,(rwD cell i k).2++[(rwD cell i k).1%10^(4:Int).toNat]) else ((rwD cell i k).1,(rwD cell i k).2++[rwM cell i k])
theorem rwD_hi{cell i rest:Int}{k:Nat}{rs:List Int}(h:rwD cell i k=(rest,rs))(c1:10^(18:Int).toNat<=absI cell)(c2:0<rest):rwD cell i (k+1)=(rest/10^(4:Int).toNat,rs++[rest%10^(4:Int).toNat]):=by
 rw [rwD,h]
 exact if_pos ⟨c1,c2⟩
theorem rwD_lo{cell i rest:Int}{k:Nat}{rs:List Int}(h:rwD cell i k=(rest,rs))(c:¬(10^(18:Int).toNat<=absI cell/\0<rest)):rwD cell i (k+1)=(rest,rs++[rwM cell i k]):=by
 rw [rwD,h]
 exact if_neg c
def rowOf(ns:List Int)(i n:Int):List Int:=(rwD (ns.getD i.toNat 0) i n.toNat).2
def n_w(K:PySem.W.Frag):Sp:=fun vs H Q _=>∃ (a:Addr) (ns:List Int) (i n:Int),vs=[.ref a,.int i,.int n]/\SqL K H a (ns.map V.int)/\ns.length<=63/\0<=i/\0<=n/\n<=1000 /\
 ∀ p (rs:List Int) H',H p=none->Same H H'->H' p=some (.lst (rs.map V.int))->(rs.length:Int)=n->Drawn rs->rs=rowOf ns i n->Q (.ref p) H'
def RowInvD(a p:Addr)(cell i n:Int)(H:Hp)(j:Nat)(σ:St)(H':Hp):Prop :=
 ∃ (rest:Int) (rs:List Int) (x y:Option V),σ=[some (.ref a),some (.int i),some (.int n),some (.int cell),some (.int rest),some (.bl (decide (10^(18:Int).toNat<=absI cell))),some (.ref p),x,y]/\0<=rest/\rs.length=j/\Drawn rs/\Same H H'/\H' p=some (.lst (rs.map V.int))/\rwD cell i j=(rest,rs)
def r_z(K:PySem.W.Frag):Sp:=fun vs H Q _=>∃ (a z:Addr) (rs zs:List Int),vs=[.ref a,.ref z]/\SqL K H a (rs.map V.int)/\SqL K H z (zs.map V.int)/\rs.length=60/\Drawn rs/\4<=zs.length/\(∀ r∈zs,0<=r) /\
 ∀ w b g o W H',H w=none->H b=none->H g=none->H o=none->Same H H'->IsWkA H' w b g o W->W.Ok->W.gates.length<=12->W.outs.length<=8->W.boxes.length<=8->Q (.ref w) H'
def twR(F:Nat)(gA:List (Nat×Nat))(rw:List Int):Nat->(Nat->Nat)×List (Nat×Nat)
 | 0=>(id,[])
 | k+1 =>
  let tw:=(twR F gA rw k).1
  let gs:=(twR F gA rw k).2
  let p:=(eM tw (gA.getD k (0,0)).2,eM tw (gA.getD k (0,0)).1)
  let gs':=gs++(if rw.getD k 0%3=1 then [p] else [])
  (twU tw (F+k) (F+gs'.length),gs'++[p])
def twW(A:Wk)(rw:List Int):Wk:=twB A (twR A.first (nG A.gates) rw A.gates.length).1 (twR A.first (nG A.gates) rw A.gates.length).2
theorem twR_step{F:Nat}{gA:List (Nat×Nat)}{rw:List Int}{k a b:Nat}{tw:Nat->Nat}{gs ex:List (Nat×Nat)}(h:twR F gA rw k=(tw,gs))(hg:gA[k]? = some (a,b))(hex:ex=if rw.getD k 0%3=1 then [(eM tw b,eM tw a)] else []):twR F gA rw (k+1)=(twU tw (F+k) (F+(gs++ex).length),gs++ex++[(eM tw b,eM tw a)]):=by
 have e:gA.getD k (0,0)=(a,b):=by rw [List.getD_eq_getElem?_getD,hg];rfl
 show (twU (twR F gA rw k).1 (F+k) _,_)=_
 rw [h,e,hex]
def q_n:Sp:=fun vs H Q _=>∃ (w b g o r:Addr) (A:Wk) (rw:List Int),vs=[.ref w,.ref r]/\IsWkA H w b g o A/\A.Ok/\A.gates.length<=12/\H r=some (.lst (rw.map V.int))/\rw.length=12/\Drawn rw /\
 ∀ (t w' b' g' o' l:Addr) (tw:Nat->Nat) H',Same H H'->H' t=some (.tup [.ref w',.ref l])->IsWkA H' w' b' g' o' (twW A rw)->(twW A rw).Ok->(twW A rw).gates.length<=24->Twn A (twW A rw) tw->H' l=some (.lst (z_g (rwE tw A.knots)))->Q (.ref t) H'
structure PapL(H:Hp)(p a1 a2 a3 a4:Addr)(rs1 rs3 rs4:List Addr)(kept:List (Nat×Nat))(s2 s3:List Stp):Prop where
 p:H p=some (.tup [.ref a1,.ref a2,.ref a3,.ref a4])
 k:PrsR H a1 rs1 (gI kept)
 z:H a2=some (.lst [])
 l3:H a3=some (.lst (rs3.map V.ref))
 e3:Paired (fun r s=>StpR H r s) rs3 s2
 l4:H a4=some (.lst (rs4.map V.ref))
 e4:Paired (fun r s=>StpR H r s) rs4 s3
theorem StpR.same{H H':Hp}(s:Same H H'){r:Addr}{x:Stp}(h:StpR H r x):StpR H' r x:=by
 obtain ⟨lt,e1,e2⟩:=h
 exact ⟨lt,s _ _ e1,s _ _ e2⟩
theorem PapL.same{H H':Hp}{p a1 a2 a3 a4:Addr}{rs1 rs3 rs4:List Addr}{kept:List (Nat×Nat)}{s2 s3:List Stp}(s:Same H H')(h:PapL H p a1 a2 a3 a4 rs1 rs3 rs4 kept s2 s3):PapL H' p a1 a2 a3 a4 rs1 rs3 rs4 kept s2 s3 :=
 ⟨s _ _ h.p,h.k.same s,s _ _ h.z,s _ _ h.l3,z_w (fun r x q=>q.same s) h.e3,s _ _ h.l4,z_w (fun r x q=>q.same s) h.e4⟩
def prs_un{H:Hp}{rs:List Addr}{ps:List (Nat×Nat)}(h:Paired (fun r (p:Int×Int)=>H r=some (.tup [.int p.1,.int p.2])) rs (gI ps)):Paired (fun r (q:Nat×Nat)=>H r=some (.tup [.int (q.1:Int),.int (q.2:Int)])) rs ps:=pairedUnmap (R:=fun r (p:Int×Int)=>H r=some (.tup [.int p.1,.int p.2])) (f:=fun q:Nat×Nat=>((q.1:Int),(q.2:Int))) h
theorem PapL.as{H:Hp}{p a1 a2 a3 a4 p' b1 b2 b3 b4:Addr}{rs1 rs3 rs4:List Addr}{kept:List (Nat×Nat)}{s2 s3:List Stp}(h:PapL H p a1 a2 a3 a4 rs1 rs3 rs4 kept s2 s3)(b:Bool)(hp:H p'=some (.tup [.ref b1,.ref b2,.ref b3,.ref b4]))(h1:H b1=some (sqO b (rs1.map V.ref)))(h2:H b2=some (sqO b []))(h3:H b3=some (sqO b (rs3.map V.ref)))(h4:H b4=some (sqO b (rs4.map V.ref))):PaperA H p' kept s2 s3 :=
 ⟨b1,b2,b3,b4,hp,⟨b,rs1,h1,prs_un h.k.2⟩,⟨b,[],h2,.nil⟩,⟨b,rs3,h3,h.e3⟩,⟨b,rs4,h4,h.e4⟩⟩
def s_h:Sp:=fun vs H Q _=>∃ (w b g o w' b' g' o' tl:Addr) (A B:Wk) (tw:Nat->Nat),vs=[.ref w,.ref w',.ref tl]/\IsWkA H w b g o A/\IsWkA H w' b' g' o' B/\A.Ok/\B.Ok/\Twn A B tw/\A.knots<=100/\B.knots<=100/\(bes A B).Ok/\H tl=some (.lst (z_g (rwE tw A.knots))) /\
 ∀ p a1 a2 a3 a4 rs1 rs3 rs4 H',Same H H'->PapL H' p a1 a2 a3 a4 rs1 rs3 rs4 (kpN A (k1 A B) fun k=>k2 A B (tw k)) (stN' A (fun k=>kn (bes A B) (k1 A B k)) fun k=>kn (bes A B) (k2 A B (tw k))) (stN' A (k1 A B) fun k=>k2 A B (tw k))->Q (.ref p) H'
section
variable {A B:Wk} {tw:Nat->Nat}
theorem u_i(A B:Wk):(bes A B).knots=nB A B:=by
 show 1+A.ins+(bes A B).boxes.length+(bes A B).gates.length=_
 rw [x_p,w_t]
 rfl
theorem Twn.lt(T:Twn A B tw){x:Nat}(hx:x<A.knots):k1 A B x<nB A B/\tw x<B.knots/\k2 A B (tw x)<nB A B:=by
 have a1:=A.knots_is
 have a2:=A.first_is
 have b1:=B.knots_is
 have h1:=T.ins
 have h2:=T.bl
 have W:=T.now
 have tn:=W.tn x hx
 refine ⟨?_,?_,tn⟩
 ·by_cases c:x<=A.ins
  ·rw [W.sh x c];exact tn
  ·exact Nat.lt_trans (W.lt x (by lia) hx) tn
 ·rcases T.case hx with ⟨c1,c2⟩ | ⟨c1,c2,c3⟩
  ·lia
  ·lia
theorem nB_is(A B:Wk):nB A B=1+A.ins+(A.boxes.length+B.boxes.length)+(A.gates.length+B.gates.length):=rfl
def gls(A B:Wk)(tw:Nat->Nat):List (Nat×Nat):=A.outs.map fun e=>(eM (k1 A B) e.toNat,eM (fun k=>k2 A B (tw k)) e.toNat)
theorem gls_is(T:Twn A B tw)(ok:A.Ok):gI (gls A B tw)=(A.outs.zip B.outs).map fun q=>(F1 A B q.1,F2 A B q.2):=by
 have key:∀ (k:Nat) (x:Int),A.outs[k]? = some x->B.outs[k]? = some ((eM tw x.toNat:Nat):Int):=fun k x hx=>by
  have c:=ok.out x (List.mem_of_getElem? hx)
  exact T.ot k x.toNat (by rw [hx,Int.toNat_of_nonneg c.1])
 refine List.ext_getElem? fun k=>?_
 unfold gI gls
 rw [List.map_map,List.getElem?_map,List.getElem?_map]
 by_cases hk:k<A.outs.length
 ·have hx:A.outs[k]? = some A.outs[k]:=List.getElem?_eq_getElem hk
  have c:=ok.out _ (List.mem_of_getElem? hx)
  have hb:=key k _ hx
  generalize A.outs[k]=x at hx c hb
  rw [hx,List.getElem?_zip_eq_some (z:=(x,((eM tw x.toNat:Nat):Int))) |>.mpr ⟨hx,hb⟩]
  show some (((eM (k1 A B) x.toNat:Nat):Int),((eM (fun k=>k2 A B (tw k)) x.toNat:Nat):Int))=some (F1 A B x,F2 A B ((eM tw x.toNat:Nat):Int))
  rw [F2_nat,t_h,<-F1_nat,Int.toNat_of_nonneg c.1]
 ·have l1:A.outs[k]? = none:=List.getElem?_eq_none (by lia)
  have l2:(A.outs.zip B.outs)[k]? = none:=List.getElem?_eq_none (by rw [List.length_zip,T.ol];lia)
  rw [l1,l2]
  rfl
theorem paper_ok(T:Twn A B tw)(okA:A.Ok)(ok:(bes A B).Ok):PaperOk (bes A B) (gls A B tw) (kpN A (k1 A B) fun k=>k2 A B (tw k)) (stN' A (fun k=>kn (bes A B) (k1 A B k)) fun k=>kn (bes A B) (k2 A B (tw k))) (stN' A (k1 A B) fun k=>k2 A B (tw k)):=by
 have a1:=A.knots_is
 refine ⟨fun q hq=>?_,f_l T okA ok,nexts_ok T okA ok,nows_ok T okA ok fun q hq=>?_⟩
 ·obtain ⟨k,hk,rfl⟩:=h_r hq
  obtain ⟨l1,l2,l3⟩:=T.lt (x:=1+A.ins+k) (by lia)
  rw [u_i]
  exact ⟨by show 2*k1 A B (1+A.ins+k)<_;lia,by show 2*k2 A B (tw (1+A.ins+k))<_;lia⟩
 ·obtain ⟨e,he,rfl⟩:=List.mem_map.mp hq
  have c:=okA.out e he
  exact ⟨e.toNat,by lia,rfl⟩
end
def barW(A:Wk):Wk:=⟨A.ins,[],[],A.outs.filter fun e=>decide (e<2*(1+(A.ins:Int)))⟩
theorem m_h{A:Wk}(ok:A.Ok){e:Int}(h:e∈(barW A).outs):0<=e/\e<2*(1+(A.ins:Int)):=by
 obtain ⟨h1,h2⟩:=List.mem_filter.mp h
 exact ⟨(ok.out e h1).1,of_decide_eq_true h2⟩
theorem bar_ok{A:Wk}(ok:A.Ok):(barW A).Ok:=by
 refine ⟨ok.ins,Nat.zero_le _,Nat.zero_le _,Nat.le_trans (List.length_filter_le _ _) ok.outs,fun k g h=>?_,fun b h=>?_,fun o h=>?_⟩
 ·have:([]:List (Int×Int))[k]? = some g:=h
  simp at this
 ·exact absurd h List.not_mem_nil
 ·obtain ⟨h1,h2⟩:=m_h ok h
  exact ⟨h1,by show o<2*((1+A.ins+0+0:Nat):Int);lia⟩
def barG(A:Wk):List (Nat×Nat):=(barW A).outs.map fun e=>(e.toNat,e.toNat)
theorem bar_k{A:Wk}{e:Nat}(h:e/2<=A.ins):eM (k1 (barW A) (barW A)) e=e/\eM (k2 (barW A) (barW A)) e=e:=by
 unfold eM k1 k2
 rw [if_pos (by show e/2<=A.ins+0;lia),if_pos (by show e/2<=A.ins;lia)]
 lia
theorem bar_gls{A:Wk}(ok:A.Ok):gI (barG A)=((barW A).outs.zip (barW A).outs).map fun q=>(F1 (barW A) (barW A) q.1,F2 (barW A) (barW A) q.2):=by
 refine List.ext_getElem? fun k=>?_
 unfold gI barG
 rw [List.map_map,List.getElem?_map,List.getElem?_map]
 cases hx:(barW A).outs[k]? with
 | none =>
  rw [show ((barW A).outs.zip (barW A).outs)[k]? = none from List.getElem?_eq_none (by rw [List.length_zip,Nat.min_self];exact List.getElem?_eq_none_iff.mp hx)]
  rfl
 | some x =>
  obtain ⟨c1,c2⟩:=m_h ok (List.mem_of_getElem? hx)
  obtain ⟨n,rfl⟩:∃ n:Nat,x=(n:Int):=⟨x.toNat,by lia⟩
  obtain ⟨e1,e2⟩:=bar_k (A:=A) (e:=n) (by lia)
  rw [List.getElem?_zip_eq_some (z:=((n:Int),(n:Int))) |>.mpr ⟨hx,hx⟩]
  show some (((n:Nat):Int),((n:Nat):Int))=some (F1 (barW A) (barW A) (n:Int),F2 (barW A) (barW A) (n:Int))
  rw [F1_nat,F2_nat,e1,e2]
theorem i_r{A:Wk}(ok:A.Ok):PaperOk (bes (barW A) (barW A)) (barG A) [] [] []:=by
 refine ⟨fun q h=>absurd h List.not_mem_nil,fun q h=>absurd h List.not_mem_nil,⟨id,id,.nil _,.nil _,fun q h=>absurd h List.not_mem_nil⟩,id,id,.nil _,.nil _,fun q h=>?_⟩
 obtain ⟨e,he,rfl⟩:=List.mem_map.mp h
 obtain ⟨c1,c2⟩:=m_h ok he
 rw [u_i]
 have:nB (barW A) (barW A)=1+A.ins:=by rw [nB_is];rfl
 rw [this]
 exact ⟨by show e.toNat<_;lia,by show e.toNat<_;lia,rfl⟩
def dStp(s:Stp):PyData:=.tuple [.str "stands",.int (s.1:Int),.int (s.2.1:Int),.tuple ((s.2.2.map fun e:Nat=>((e:Nat):Int)).map PyData.int)]
theorem dStp_cmp(s:Stp):Cmp 2 (dStp s):=Cmp.tuple (n:=1) fun d hd=>by
 simp only [List.mem_cons,List.not_mem_nil,or_false] at hd
 rcases hd with rfl | rfl | rfl | rfl
 ·exact ⟨by simp only [PyData.canLay0];decide +kernel,by simp [PyData.depth]⟩
 ·exact .int _
 ·exact .int _
 ·exact Cmp.tuple (n:=0) (Cmp.ints _)
theorem StpR.rd{K:PySem.W.Frag}{H:Hp}{r:Addr}{s:Stp}(h:StpR H r s):RdD K H (dStp s) (.ref r):=by
 obtain ⟨lt,e1,e2⟩:=h
 refine RdD.tup (SqT.of e1) (.cons (.str _) (.cons (.int _) (.cons (.int _) (.cons (RdD.tup (SqT.of e2) ?_) .nil))))
 have:z_g s.2.2=(s.2.2.map fun e:Nat=>((e:Nat):Int)).map V.int:=by unfold z_g;rw [List.map_map];rfl
 rw [this]
 exact RdDs.ints _
theorem l_p{K:PySem.W.Frag}{H:Hp}:∀ {rs:List Addr} {ss:List Stp},Paired (fun r s=>StpR H r s) rs ss->RdDs K H (ss.map dStp) (rs.map V.ref)
 | _,_,.nil=>.nil
 | _,_,.cons a b=>.cons a.rd (l_p b)
def dPap(kept:List (Nat×Nat))(s2 s3:List Stp):PyData:=.tuple [dPs (gI kept),.list [],.list (s2.map dStp),.list (s3.map dStp)]
theorem dPap_cmp(kept:List (Nat×Nat))(s2 s3:List Stp):Cmp 64 (dPap kept s2 s3):=(Cmp.tuple (n:=3) fun d hd=>by
 have l:∀ ss:List Stp,Cmp 3 (.list (ss.map dStp)):=fun ss=>Cmp.list (n:=2) fun d hd=>by
  obtain ⟨s,_,rfl⟩:=List.mem_map.mp hd
  exact dStp_cmp s
 simp only [List.mem_cons,List.not_mem_nil,or_false] at hd
 rcases hd with rfl | rfl | rfl | rfl
 ·exact (q_t _).mono (by decide)
 ·exact l []
 ·exact l _
 ·exact l _).mono (by decide)
theorem PapL.rd{K:PySem.W.Frag}{H:Hp}{p a1 a2 a3 a4 p' b1 b2 b3 b4:Addr}{rs1 rs3 rs4:List Addr}{kept:List (Nat×Nat)}{s2 s3:List Stp}(h:PapL H p a1 a2 a3 a4 rs1 rs3 rs4 kept s2 s3)(hp:H p'=some (.tup [.ref b1,.ref b2,.ref b3,.ref b4]))(h1:H b1=some (.lst (rs1.map V.ref)))(h2:H b2=some (.lst []))(h3:H b3=some (.lst (rs3.map V.ref)))(h4:H b4=some (.lst (rs4.map V.ref))):RdD K H (dPap kept s2 s3) (.ref p') :=
 RdD.tup (SqT.of hp) (.cons (RdD.lst (SqL.of h1) (PrsR.data h.k.2)) (.cons (RdD.lst (SqL.of h2) .nil) (.cons (RdD.lst (SqL.of h3) (l_p h.e3)) (.cons (RdD.lst (SqL.of h4) (l_p h.e4)) .nil))))
open PySem
theorem o_g{K:PySem.W.Frag}{a:Addr}{S:V->St}{te:TE}{H:Hp}{Fin:List V->Hp->Prop}{as:List Addr}{cs:List (List V)}(b:Bool)(hp:H a=some (.tup (as.map V.ref)))(hc:Paired (fun r xs=>H r=some (.lst xs)) as cs)(hz:cs.length<=100)
  (hs:∀ r xs J,J r=some (.lst xs)->∀ N:V->Hp->Prop,(∀ l,J l=none->N (.ref l) (upd J l (sqO b xs)))->te (S (.ref r)) J N)
  (hd:∀ bs J,Same H J->Paired (fun r xs=>J r=some (sqO b xs)) bs cs->Fin (bs.map V.ref) J):CompW (Itt K a) S tYes te H Fin:=by
 have hl:(as.map V.ref).length=cs.length:=by rw [List.length_map];exact hc.length
 refine u_z (xs:=as.map V.ref) (fun i ys J=>Same H J/\∃ bs:List Addr,ys=bs.map V.ref/\Paired (fun r xs=>J r=some (sqO b xs)) bs (cs.take i)) ⟨Same.refl _,[],rfl,.nil⟩ ?_ ?_ ?_ ?_
 ·rintro i ys J _ ⟨s,_⟩
  exact SqT.of (s _ _ hp)
 ·rintro i ys J hi ⟨s,bs,rfl,pr⟩
  have h1:=Paired.length pr
  rw [List.length_take] at h1
  rw [List.length_map]
  exact y_b (by lia)
 ·rintro i x ys J hx ⟨s,bs,rfl,pr⟩
  rw [List.getElem?_map] at hx
  obtain ⟨r,hr,rfl⟩:=Option.map_eq_some_iff.mp hx
  obtain ⟨xs,hxs,hrx⟩:=y_v hc hr
  unfold tYes
  refine iteT (hs r xs J (s _ _ hrx) _ fun l hl'=>⟨s.trans (z_f hl' _),bs++[l],by rw [List.map_append];rfl,?_⟩)
  rw [y_u hxs]
  exact x_g (R:=fun r xs=>(upd J l _) r=some (sqO b xs)) z_d (z_w (fun _ _ z=>z_f hl' _ _ _ z) pr)
 ·rintro ys J ⟨s,bs,rfl,pr⟩
  rw [hl,List.take_length] at pr
  exact hd bs J s pr
theorem h_h{R:Addr->List V->Prop}{bs:List Addr}{c1 c2 c3 c4:List V}(h:Paired R bs [c1,c2,c3,c4]):∃ b1 b2 b3 b4,bs=[b1,b2,b3,b4]/\R b1 c1/\R b2 c2/\R b3 c3/\R b4 c4:=by
 cases h with
 | cons h1 h=>cases h with
  | cons h2 h=>cases h with
   | cons h3 h=>cases h with
    | cons h4 h=>cases h;exact ⟨_,_,_,_,rfl,h1,h2,h3,h4⟩
theorem PapL.four{H:Hp}{p a1 a2 a3 a4:Addr}{rs1 rs3 rs4:List Addr}{kept:List (Nat×Nat)}{s2 s3:List Stp}(h:PapL H p a1 a2 a3 a4 rs1 rs3 rs4 kept s2 s3):Paired (fun r xs=>H r=some (HO.lst xs)) [a1,a2,a3,a4] [rs1.map V.ref,[],rs3.map V.ref,rs4.map V.ref]:=.cons h.k.1 (.cons h.z (.cons h.l3 (.cons h.l4 .nil)))
theorem bes_outs(A B:Wk):(bes A B).outs=A.outs.map (F1 A B)++B.outs.map (F2 A B):=by
 show ot (two A B)=_
 unfold ot two
 simp
theorem bes_outA{A B:Wk}{tw:Nat->Nat}(T:Twn A B tw)(ok:A.Ok){i:Nat}{q:Nat×Nat}(h:(gls A B tw)[i]? = some q):atI ((bes A B).outs.map V.int) (i:Int)=some (.int ((q.1:Nat):Int))/\atI ((bes A B).outs.map V.int) ((A.outs.length:Int)+(i:Int))=some (.int ((q.2:Nat):Int)):=by
 unfold gls at h
 rw [List.getElem?_map] at h
 obtain ⟨e,he,rfl⟩:=Option.map_eq_some_iff.mp h
 have hi:=(List.getElem?_eq_some_iff.mp he).1
 have c:=ok.out e (List.mem_of_getElem? he)
 obtain ⟨n,rfl⟩:∃ n:Nat,e=(n:Int):=⟨e.toNat,by lia⟩
 have hb:=T.ot i n he
 rw [bes_outs,List.map_append]
 refine ⟨v_x ?_,?_⟩
 ·rw [List.getElem?_append_left (by rw [List.length_map,List.length_map];exact hi),List.getElem?_map,List.getElem?_map,he]
  show some (V.int (F1 A B (n:Int)))=_
  rw [F1_nat]
  rfl
 ·rw [show (A.outs.length:Int)+(i:Int)=((A.outs.length+i:Nat):Int) by lia]
  refine v_x ?_
  rw [List.getElem?_append_right (by rw [List.length_map,List.length_map];lia),List.length_map,List.length_map,Nat.add_sub_cancel_left,List.getElem?_map,List.getElem?_map,hb]
  show some (V.int (F2 A B ((eM tw n:Nat):Int)))=_
  rw [F2_nat,t_h]
  rfl
theorem m_q(A B:Wk)(tw:Nat->Nat):(gls A B tw).length=A.outs.length:=List.length_map _
open PySem PySem.Spec PyProof.Rows
section
variable {prog:Program} {w:World}
structure Wkr(prog:Program)(w:World)(it l:Addr)(n:Nat)(P:Nat->Value->Prop)(St:Nat->Heap->Prop):Prop where
 obj:∀ i h,St i h->∃ o,h.get? it=some o/\∀ v,o.data ≠ .cell v
 keep:∀ i h h',St i h->(∀ o,h.get? it=some o->h'.get? it=some o)->(∀ o,h.get? l=some o->h'.get? l=some o)->St i h'
 item:∀ (A:Around) (E:Value->Shared->Prop) (s:Shared) (Q:Value->Shared->Prop) (i:Nat),i<n->St i s.heap->(∀ x h',P i x->St (i+1) h'->Heap.SameBut it s.heap h'->Q x { s with heap:=h' })->wpAny (model prog w) A (Builtin.SmallTypes.nextOf (.ref it)) Q E s
 stop:∀ (A:Around) (E:Value->Shared->Prop) (s:Shared) (Q:Value->Shared->Prop),A.handled=none->St n s.heap->(∀ h' e,Heap.ExtBut it s.heap h'->(∃ o,h'.get? e=some o/\o.cls = .type "StopIteration")->E (.ref e) { s with heap:=h' })->wpAny (model prog w) A (Builtin.SmallTypes.nextOf (.ref it)) Q E s
theorem f_v(it t:Addr)(hne:t≠it)(vs:Array Value):Wkr prog w it t vs.size (fun i v=>vs[i]? = some v) (fun i h=>h.IsTupleIter it t i/\h.IsTuple t vs) where
 obj:=fun i h ⟨⟨o,ho,_,hd⟩,_⟩=>⟨o,ho,fun v q=>by rw [hd] at q;cases q⟩
 keep:=fun i h h' ⟨⟨o,ho,r⟩,⟨o2,ho2,r2⟩⟩ k1 k2=>⟨⟨o,k1 o ho,r⟩,⟨o2,k2 o2 ho2,r2⟩⟩
 item:=fun A E s Q i hi ⟨ci,ct⟩ q=>by
  have ct':=ct
  obtain ⟨o,ho,hc,hd⟩:=id ci
  obtain ⟨ot,hot,_,nt,hdt⟩:=ct
  have hx:vs[i]? = some vs[i]:=by simp [hi]
  unfold Builtin.SmallTypes.nextOf
  refine wpAny_bind (wpAny_callSpecial?_slot (name:=Str.ofString "__next__") ci.typeIs F.slot_tuple_iterator_next (wpAny_call_entry F.slot_tuple_iterator_next ci.typeIs F.entry_tuple_iterator_next ?_ (F.args_tuple_iterator_next_1 _)))
  change wpAny _ _ (field (.ref it) 0 >>= _) _ _ s
  refine wpAny_bind (wpAny_field ho hd (x:=Value.ref t) rfl ?_)
  change wpAny _ _ (if (Value.ref t == Value.none)=true then _ else _) _ _ s
  rw [if_neg (show ¬((Value.ref t == Value.none)=true) from fun y=>Bool.false_ne_true y)]
  change wpAny _ _ (field (.ref it) 1 >>= _) _ _ s
  refine wpAny_bind (wpAny_field ho hd (x:=Value.int i 0) rfl ?_)
  change wpAny _ _ (seqItems? (.ref t) >>= _) _ _ s
  refine wpAny_bind (wpAny_seqItems hot hdt ?_)
  simp only [hx,Int.toNat_natCast]
  refine wpAny_bind (wpAny_setField ho hd (by simp) (wpAny_pure ⟨vs[i],rfl,wpAny_pure (q _ _ hx ⟨?_,ct'.extBut (Heap.SameBut.update ..).extBut hne⟩ (Heap.SameBut.update ..))⟩))
  exact ⟨_,Heap.get?_update_self _ ho (Obj.isFreed_of_fields (Obj.data_mapFields hd _)),(Obj.cls_mapFields ..).trans hc,by rw [Obj.data_mapFields hd];simp [rawInt]⟩
 stop:=fun A E s Q hh ⟨ci,ct⟩ q=>by
  obtain ⟨o,ho,hc,hd⟩:=id ci
  obtain ⟨ot,hot,_,nt,hdt⟩:=ct
  have hx:vs[vs.size]? = none:=by simp
  unfold Builtin.SmallTypes.nextOf
  refine wpAny_bind (wpAny_callSpecial?_slot (name:=Str.ofString "__next__") ci.typeIs F.slot_tuple_iterator_next (wpAny_call_entry F.slot_tuple_iterator_next ci.typeIs F.entry_tuple_iterator_next ?_ (F.args_tuple_iterator_next_1 _)))
  change wpAny _ _ (field (.ref it) 0 >>= _) _ _ s
  refine wpAny_bind (wpAny_field ho hd (x:=Value.ref t) rfl ?_)
  change wpAny _ _ (if (Value.ref t == Value.none)=true then _ else _) _ _ s
  rw [if_neg (show ¬((Value.ref t == Value.none)=true) from fun y=>Bool.false_ne_true y)]
  change wpAny _ _ (field (.ref it) 1 >>= _) _ _ s
  refine wpAny_bind (wpAny_field ho hd (x:=Value.int vs.size 0) rfl ?_)
  change wpAny _ _ (seqItems? (.ref t) >>= _) _ _ s
  refine wpAny_bind (wpAny_seqItems hot hdt ?_)
  simp only [hx,Int.toNat_natCast]
  refine wpAny_bind (wpAny_rule (wpAny_bind (wpAny_setField ho hd (by simp) ?_)))
  change wpAny _ _ (newExc (.type "StopIteration") [] >>= _) _ _ _
  refine wpAny_bind ?_
  simp only [newTuple,newExc]
  refine wpAny_bind (wpAny_newObj_type ?_ (by size_fits))
  refine wpAny_bind (m:=firstArgMember _ _) (wpAny_of_eq (a:=Value.none) (by first | rfl | (simp only [firstArgMember];rfl)) (wpAny_newObj_type ?_ (by size_fits)))
  simp only [raiseNew]
  refine wpAny_bind (wpAny_handled ?_)
  first | rw [show A.in1.handled=none from hh] | rw [hh]
  exact wpAny_bind (wpAny_pure (wpAny_throw (q _ _ (((Heap.SameBut.update ..).extBut.push _).push _) ⟨_,Heap.get?_push_size _ rfl,rfl⟩)))
theorem f_x{A:Around}{E:Value->Shared->Prop}{s:Shared}{z TI TO i1 i2 l1 l2:Addr}{n1 n2 k:Nat}{P1 P2:Nat->Value->Prop}{S1 S2:Nat->Heap->Prop}{a b:Value}{Q:Value->Shared->Prop}(D:ZipApart z TI TO i1 i2 l1 l2)
  (W1:Wkr prog w i1 l1 n1 P1 S1) (W2:Wkr prog w i2 l2 n2 P2 S2) (zz:IsZip s.heap z TI TO .none) (zi:IsPair s.heap TI (.ref i1) (.ref i2)) (zo:IsPair s.heap TO a b)
  (c1:S1 k s.heap) (c2:S2 k s.heap) (lt1:k<n1) (lt2:k<n2)
  (q:∀ x y h',P1 k x->P2 k y->IsZip h' z TI TO (rawInt s.heap.objs.size)->IsPair h' TO x y->S1 (k+1) h'->S2 (k+1) h'->IsPair h' s.heap.objs.size x y->(∀ c o,c∉[z,TO,i1,i2]->s.heap.get? c=some o->h'.get? c=some o)->Q (.ref s.heap.objs.size) { s with heap:=h' }) :
  wpAny (model prog w) A (Builtin.«zip.__next__» ⟨[.ref z],[]⟩) (fun fin s'=>∃ v,fin = .done (.ret v)/\Q v s') E s:=by
 change wpAny _ _ (field (.ref z) 2 >>= _) _ _ _
 refine wpAny_bind (wpAny_field zz rfl (x:=.bool false) rfl ?_)
 change wpAny _ _ (field (.ref z) 3 >>= _) _ _ _
 refine wpAny_bind (wpAny_field zz rfl (x:=.ref TI) rfl ?_)
 refine wpAny_bind (wpAny_seqItems zi rfl ?_)
 change wpAny _ _ (Builtin.SmallTypes.ownedTupleIsFree (.ref z) >>= _) _ _ _
 refine wpAny_bind ?_
 unfold Builtin.SmallTypes.ownedTupleIsFree;refine wpAny_bind (wpAny_field zz rfl (x:=.none) rfl (wpAny_pure ?_))
 simp only [if_true]
 refine wpAny_bind (wpAny_rule ?_)
 refine wpAny_bind (wpAny_field zz rfl (x:=.ref TO) rfl ?_)
 refine wpAny_bind (wpAny_setField_rec zz (by simp) fun g1 zz1 t1=>?_)
 replace zz1:IsZip g1 z TI TO .ellipsis:=zz1
 refine wpAny_bind ?_
 simp only [List.forIn_cons,List.forIn_nil,List.zipIdx_cons,List.zipIdx_nil]
 refine wpAny_bind (wpAny_bind (wpAny_onRaise ?_))
 change wpAny _ _ (Builtin.SmallTypes.nextOf (.ref i1) >>= _) _ _ _
 have up1:∀ c o,c≠z->s.heap.get? c=some o->g1.get? c=some o:=fun c o hc e=>t1.extBut _ _ hc e
 refine wpAny_bind (W1.item _ _ _ _ k lt1 (W1.keep _ _ _ c1 (fun o e=>up1 _ o D.i1z e) fun o e=>up1 _ o D.l1z e) fun x g2 px d1 t2=>wpAny_pure ?_)
 have up2:∀ c o,c≠z->c≠i1->s.heap.get? c=some o->g2.get? c=some o:=fun c o h1 h2 e=>t2.extBut _ _ h2 (up1 c o h1 e)
 have zo2:IsPair g2 TO a b:=up2 _ _ D.TOz D.TOi1 zo
 refine wpAny_bind (wpAny_seqItems zo2 rfl ?_)
 refine wpAny_bind (wpAny_updateSeq_pair zo2 fun g3 zo3 t3=>?_)
 replace zo3:IsPair g3 TO x b:=zo3
 refine wpAny_bind (wpAny_letGo (wpAny_pure ?_));refine wpAny_bind (wpAny_bind (wpAny_onRaise ?_))
 change wpAny _ _ (Builtin.SmallTypes.nextOf (.ref i2) >>= _) _ _ _
 have up3:∀ c o,c≠z->c≠i1->c≠TO->s.heap.get? c=some o->g3.get? c=some o:=fun c o h1 h2 h3 e=>t3.extBut _ _ h3 (up2 c o h1 h2 e)
 refine wpAny_bind (W2.item _ _ _ _ k lt2 (W2.keep _ _ _ c2 (fun o e=>up3 _ o D.i2z D.i12.symm D.TOi2.symm e) fun o e=>up3 _ o D.l2z D.l2i1 D.l2TO e) fun y g4 py d2 t4=>wpAny_pure ?_)
 have zo4:IsPair g4 TO x b:=t4.extBut _ _ D.TOi2 zo3
 refine wpAny_bind (wpAny_seqItems zo4 rfl ?_)
 refine wpAny_bind (wpAny_updateSeq_pair zo4 fun g5 zo5 t5=>?_)
 replace zo5:IsPair g5 TO x y:=zo5
 refine wpAny_bind (wpAny_letGo (wpAny_pure (wpAny_pure ?_)));refine wpAny_bind (wpAny_seqItems zo5 rfl ?_)
 refine wpAny_bind (wpAny_newTuple ?_)
 have sz:g5.objs.size=s.heap.objs.size:=by rw [t5.1,t4.1,t3.1,t2.1,t1.1]
 have zz5:IsZip g5 z TI TO .ellipsis:=t5.extBut _ _ D.TOz.symm (t4.extBut _ _ D.i2z.symm (t3.extBut _ _ D.TOz.symm (t2.extBut _ _ D.i1z.symm zz1)))
 have up5:∀ c o,c∉[z,TO,i1,i2]->s.heap.get? c=some o->g5.get? c=some o:=fun c o hc e=>by
  simp only [List.mem_cons,List.not_mem_nil,or_false,not_or] at hc
  exact t5.extBut _ _ hc.2.1 (t4.extBut _ _ hc.2.2.2 (up3 c o hc.1 hc.2.2.1 hc.2.1 e))
 have d15:S1 (k+1) g5:=W1.keep _ _ _ d1 (fun o e=>t5.extBut _ _ D.TOi1.symm (t4.extBut _ _ D.i12 (t3.extBut _ _ D.TOi1.symm e))) fun o e=>t5.extBut _ _ D.l1TO (t4.extBut _ _ D.l1i2 (t3.extBut _ _ D.l1TO e))
 have d25:S2 (k+1) g5:=W2.keep _ _ _ d2 (fun o e=>t5.extBut _ _ D.TOi2.symm e) fun o e=>t5.extBut _ _ D.l2TO e
 have zlt:z<g5.objs.size:=Heap.lt_size zz5
 change wpAny _ _ (Builtin.SmallTypes.ownedTupleHandOut (.ref z) (.ref g5.objs.size) >>= _) _ _ _
 refine wpAny_bind ?_
 unfold Builtin.SmallTypes.ownedTupleHandOut;have zz6:IsZip (g5.push { cls:=.type "tuple",data:=.seq #[x,y] }) z TI TO .ellipsis:=Heap.get?_push_of_some _ zz5
 refine wpAny_bind (wpAny_setField_rec zz6 (by simp) fun g7 zz7 t7=>?_)
 replace zz7:IsZip g7 z TI TO (rawInt g5.objs.size):=zz7
 refine wpAny_setField_rec zz7 (by simp) fun g8 zz8 t8=>?_
 replace zz8:IsZip g8 z TI TO (rawInt g5.objs.size):=zz8
 have up:∀ c o,c≠z->g5.get? c=some o->g8.get? c=some o:=fun c o hc e=>t8.extBut _ _ hc (t7.extBut _ _ hc (Heap.get?_push_of_some _ e))
 have pr8:IsPair g8 g5.objs.size x y:=t8.extBut _ _ (Nat.ne_of_gt zlt) (t7.extBut _ _ (Nat.ne_of_gt zlt) (Heap.get?_push_size _ rfl))
 rw [sz] at zz8 pr8
 refine wpAny_pure ⟨_,rfl,?_⟩
 change Q (.ref g5.objs.size) _
 rw [sz]
 exact q x y g8 px py zz8 (up _ _ D.TOz zo5) (W1.keep _ _ _ d15 (fun o e=>up _ o D.i1z e) fun o e=>up _ o D.l1z e) (W2.keep _ _ _ d25 (fun o e=>up _ o D.i2z e) fun o e=>up _ o D.l2z e) pr8 fun c o hc e=>up c o (fun h=>hc (by simp [h])) (up5 c o hc e)
theorem zipw_end{A:Around}{E:Value->Shared->Prop}{s:Shared}{z TI TO i1 i2 l1 l2:Addr}{n1:Nat}{P1:Nat->Value->Prop}{S1:Nat->Heap->Prop}{Q:Fin->Shared->Prop}(hh:A.handled=none)(D:ZipApart z TI TO i1 i2 l1 l2)
  (W1:Wkr prog w i1 l1 n1 P1 S1) (zz:IsZip s.heap z TI TO .none) (zi:IsPair s.heap TI (.ref i1) (.ref i2)) (c1:S1 n1 s.heap)
  (q:∀ h' e,(∀ c o,c∉[z,TO,i1,i2]->s.heap.get? c=some o->h'.get? c=some o)->(∃ o,h'.get? e=some o/\o.cls = .type "StopIteration")->E (.ref e) { s with heap:=h' }) :
  wpAny (model prog w) A (Builtin.«zip.__next__» ⟨[.ref z],[]⟩) Q E s:=by
 change wpAny _ _ (field (.ref z) 2 >>= _) _ _ _
 refine wpAny_bind (wpAny_field zz rfl (x:=.bool false) rfl ?_)
 change wpAny _ _ (field (.ref z) 3 >>= _) _ _ _
 refine wpAny_bind (wpAny_field zz rfl (x:=.ref TI) rfl ?_)
 refine wpAny_bind (wpAny_seqItems zi rfl ?_)
 change wpAny _ _ (Builtin.SmallTypes.ownedTupleIsFree (.ref z) >>= _) _ _ _
 refine wpAny_bind ?_
 unfold Builtin.SmallTypes.ownedTupleIsFree;refine wpAny_bind (wpAny_field zz rfl (x:=.none) rfl (wpAny_pure ?_))
 simp only [if_true]
 refine wpAny_bind (wpAny_rule ?_)
 refine wpAny_bind (wpAny_field zz rfl (x:=.ref TO) rfl ?_)
 refine wpAny_bind (wpAny_setField_rec zz (by simp) fun g1 zz1 t1=>?_)
 replace zz1:IsZip g1 z TI TO .ellipsis:=zz1
 refine wpAny_bind ?_
 simp only [List.forIn_cons,List.forIn_nil,List.zipIdx_cons,List.zipIdx_nil]
 refine wpAny_bind (wpAny_bind (wpAny_onRaise ?_))
 change wpAny _ _ (Builtin.SmallTypes.nextOf (.ref i1) >>= _) _ _ _
 have up1:∀ c o,c≠z->s.heap.get? c=some o->g1.get? c=some o:=fun c o hc e=>t1.extBut _ _ hc e
 refine wpAny_bind (W1.stop _ _ _ _ hh (W1.keep _ _ _ c1 (fun o e=>up1 _ o D.i1z e) fun o e=>up1 _ o D.l1z e) fun g2 e t2 ⟨oe,e1,e2⟩=>?_)
 have zz2:IsZip g2 z TI TO .ellipsis:=t2 _ _ D.i1z.symm zz1
 have ez:e≠z:=fun x=>by subst x;rw [zz2] at e1;cases e1;simp at e2
 refine wpAny_setField_rec zz2 (by simp) fun g3 _ t3=>q g3 e (fun c o hc x=>?_) ⟨oe,t3.extBut _ _ ez e1,e2⟩
 simp only [List.mem_cons,List.not_mem_nil,or_false,not_or] at hc
 exact t3.extBut _ _ hc.1 (t2 _ _ hc.2.2.1 (up1 c o hc.1 x))
end
open PySem PySem.Spec PyProof.Rows
section
variable {prog:Program} {w:World}
theorem wkr_lst(it t:Addr)(hne:t≠it)(vs:Array Value):Wkr prog w it t vs.size (fun i v=>vs[i]? = some v) (fun i h=>h.IsListIter it t i/\h.IsList t vs) where
 obj:=fun i h ⟨⟨o,ho,_,hd⟩,_⟩=>⟨o,ho,fun v q=>by rw [hd] at q;cases q⟩
 keep:=fun i h h' ⟨⟨o,ho,r⟩,⟨o2,ho2,r2⟩⟩ k1 k2=>⟨⟨o,k1 o ho,r⟩,⟨o2,k2 o2 ho2,r2⟩⟩
 item:=fun A E s Q i hi ⟨ci,ct⟩ q=>by
  have ct':=ct
  obtain ⟨o,ho,hc,hd⟩:=id ci
  obtain ⟨ot,hot,_,nt,hdt⟩:=ct
  have hx:vs[i]? = some vs[i]:=by simp [hi]
  unfold Builtin.SmallTypes.nextOf
  refine wpAny_bind (wpAny_callSpecial?_slot (name:=Str.ofString "__next__") ci.typeIs slot_listiter_next (wpAny_call_entry slot_listiter_next ci.typeIs entry_listiter_next ?_ (args_listiter_next _)))
  change wpAny _ _ (field (.ref it) 0 >>= _) _ _ s
  refine wpAny_bind (wpAny_field ho hd (x:=Value.ref t) rfl ?_)
  change wpAny _ _ (if (Value.ref t == Value.none)=true then _ else _) _ _ s
  rw [if_neg (show ¬((Value.ref t == Value.none)=true) from fun y=>Bool.false_ne_true y)]
  change wpAny _ _ (field (.ref it) 1 >>= _) _ _ s
  refine wpAny_bind (wpAny_field ho hd (x:=Value.int i 0) rfl ?_)
  change wpAny _ _ (seqItems? (.ref t) >>= _) _ _ s
  refine wpAny_bind (wpAny_seqItems hot hdt ?_)
  simp only [hx,Int.toNat_natCast]
  refine wpAny_bind (wpAny_setField ho hd (by simp) (wpAny_pure ⟨vs[i],rfl,wpAny_pure (q _ _ hx ⟨?_,ct'.extBut (Heap.SameBut.update ..).extBut hne⟩ (Heap.SameBut.update ..))⟩))
  exact ⟨_,Heap.get?_update_self _ ho (Obj.isFreed_of_fields (Obj.data_mapFields hd _)),(Obj.cls_mapFields ..).trans hc,by rw [Obj.data_mapFields hd];simp [rawInt]⟩
 stop:=fun A E s Q hh ⟨ci,ct⟩ q=>by
  obtain ⟨o,ho,hc,hd⟩:=id ci
  obtain ⟨ot,hot,_,nt,hdt⟩:=ct
  have hx:vs[vs.size]? = none:=by simp
  unfold Builtin.SmallTypes.nextOf
  refine wpAny_bind (wpAny_callSpecial?_slot (name:=Str.ofString "__next__") ci.typeIs slot_listiter_next (wpAny_call_entry slot_listiter_next ci.typeIs entry_listiter_next ?_ (args_listiter_next _)))
  change wpAny _ _ (field (.ref it) 0 >>= _) _ _ s
  refine wpAny_bind (wpAny_field ho hd (x:=Value.ref t) rfl ?_)
  change wpAny _ _ (if (Value.ref t == Value.none)=true then _ else _) _ _ s
  rw [if_neg (show ¬((Value.ref t == Value.none)=true) from fun y=>Bool.false_ne_true y)]
  change wpAny _ _ (field (.ref it) 1 >>= _) _ _ s
  refine wpAny_bind (wpAny_field ho hd (x:=Value.int vs.size 0) rfl ?_)
  change wpAny _ _ (seqItems? (.ref t) >>= _) _ _ s
  refine wpAny_bind (wpAny_seqItems hot hdt ?_)
  simp only [hx,Int.toNat_natCast]
  refine wpAny_bind (wpAny_rule (wpAny_bind (wpAny_setField ho hd (by simp) ?_)))
  change wpAny _ _ (newExc (.type "StopIteration") [] >>= _) _ _ _
  refine wpAny_bind ?_
  simp only [newTuple,newExc]
  refine wpAny_bind (wpAny_newObj_type ?_ (by size_fits))
  refine wpAny_bind (m:=firstArgMember _ _) (wpAny_of_eq (a:=Value.none) (by first | rfl | (simp only [firstArgMember];rfl)) (wpAny_newObj_type ?_ (by size_fits)))
  simp only [raiseNew]
  refine wpAny_bind (wpAny_handled ?_)
  first | rw [show A.in1.handled=none from hh] | rw [hh]
  exact wpAny_bind (wpAny_pure (wpAny_throw (q _ _ (((Heap.SameBut.update ..).extBut.push _).push _) ⟨_,Heap.get?_push_size _ rfl,rfl⟩)))
def zm1(h:Heap)(l1:Addr):Heap:=h.push { cls:=.type "tuple_iterator",data:=.fields #[.ref l1,.int 0 0] }
def zm2(h:Heap)(l1 l2:Addr):Heap:=(zm1 h l1).push { cls:=.type "list_iterator",data:=.fields #[.ref l2,.int 0 0] }
def zm3(h:Heap)(l1 l2:Addr):Heap:=(zm2 h l1 l2).push { cls:=.type "tuple",data:=.seq #[.ref h.objs.size,.ref (zm1 h l1).objs.size] }
def zm4(h:Heap)(l1 l2:Addr):Heap:=(zm3 h l1 l2).push { cls:=.type "tuple",data:=.seq #[.none,.none] }
def zm5(h:Heap)(l1 l2:Addr):Heap:=(zm4 h l1 l2).push { cls:=.type "zip",data:=.fields #[.none,.bool false,.bool false,.ref (zm2 h l1 l2).objs.size,.ref (zm3 h l1 l2).objs.size] }
theorem zipm_new(l1 l2:Addr)(xs ys:Array Value):Meets (Builtin.«zip.__new__» ⟨[.type "zip",.ref l1,.ref l2],[]⟩) (fun _ R s=>s.heap.IsTuple l1 xs/\s.heap.IsList l2 ys/\R (.ok (.ret (.ref (zm4 s.heap l1 l2).objs.size))) { s with heap:=zm5 s.heap l1 l2 }) :=
 .of_wp fun prog w A R s ⟨c1,c2,q⟩=>by
  obtain ⟨hp,g,d,tk,os⟩:=s
  have hsub:=sub_zip
  have d1:Heap.IsTuple (Shared.heap ⟨hp,g,d,tk,os⟩) l1 xs:=c1
  have d2:Heap.IsList (Shared.heap ⟨zm1 hp l1,g,d,tk,os⟩) l2 ys:=Heap.IsList.push c2 _
  unfold zm5 zm4 zm3 zm2 zm1 at q
  unfold zm1 at d2
  wp_walk using wpAny_pyIter_tuple d1,wpAny_pyIter_list d2
  exact ⟨_,rfl,q⟩
theorem f_w{A:Around}{E:Value->Shared->Prop}{s:Shared}{l1 l2:Addr}{xs ys:Array Value}{Q:Value->Shared->Prop}(c1:s.heap.IsTuple l1 xs)(c2:s.heap.IsList l2 ys)
  (q:∀ h',IsZip h' (s.heap.objs.size+4) (s.heap.objs.size+2) (s.heap.objs.size+3) .none->IsPair h' (s.heap.objs.size+2) (.ref s.heap.objs.size) (.ref (s.heap.objs.size+1))->IsPair h' (s.heap.objs.size+3) .none .none ->
   h'.IsTupleIter s.heap.objs.size l1 0->h'.IsListIter (s.heap.objs.size+1) l2 0->(∀ c o,s.heap.get? c=some o->h'.get? c=some o)->Q (.ref (s.heap.objs.size+4)) { s with heap:=h' }):wpAny (model prog w) A (call (.type "zip") [.ref l1,.ref l2]) Q E s:=by
 refine callType_new F.called_zip (by decide) (F.typeCall_zip_2 _ _) (F.newCall_zip_2 _ _) (fun obj=>F.args_object_init_3 obj _ _) F.entry_zip_new (zipm_new l1 l2 xs ys) ⟨c1,c2,?_⟩
 have e1:(zm1 s.heap l1).objs.size=s.heap.objs.size+1:=Heap.size_push ..
 have e2:(zm2 s.heap l1 l2).objs.size=s.heap.objs.size+2:=by unfold zm2;rw [Heap.size_push,e1]
 have e3:(zm3 s.heap l1 l2).objs.size=s.heap.objs.size+3:=by unfold zm3;rw [Heap.size_push,e2]
 have e4:(zm4 s.heap l1 l2).objs.size=s.heap.objs.size+4:=by unfold zm4;rw [Heap.size_push,e3]
 have g5:(zm5 s.heap l1 l2).get? (zm4 s.heap l1 l2).objs.size=some { cls:=.type "zip",data:=.fields #[.none,.bool false,.bool false,.ref (zm2 s.heap l1 l2).objs.size,.ref (zm3 s.heap l1 l2).objs.size] }:=Heap.get?_push_size _ rfl
 have g4:(zm5 s.heap l1 l2).get? (zm3 s.heap l1 l2).objs.size=some { cls:=.type "tuple",data:=.seq #[.none,.none] }:=Heap.get?_push_of_some _ (Heap.get?_push_size _ rfl)
 have g3:(zm5 s.heap l1 l2).get? (zm2 s.heap l1 l2).objs.size=some { cls:=.type "tuple",data:=.seq #[.ref s.heap.objs.size,.ref (zm1 s.heap l1).objs.size] }:=Heap.get?_push_of_some _ (Heap.get?_push_of_some _ (Heap.get?_push_size _ rfl))
 have g2:(zm5 s.heap l1 l2).get? (zm1 s.heap l1).objs.size=some { cls:=.type "list_iterator",data:=.fields #[.ref l2,.int 0 0] }:=Heap.get?_push_of_some _ (Heap.get?_push_of_some _ (Heap.get?_push_of_some _ (Heap.get?_push_size _ rfl)))
 have g1:(zm5 s.heap l1 l2).get? s.heap.objs.size=some { cls:=.type "tuple_iterator",data:=.fields #[.ref l1,.int 0 0] }:=Heap.get?_push_of_some _ (Heap.get?_push_of_some _ (Heap.get?_push_of_some _ (Heap.get?_push_of_some _ (Heap.get?_push_size _ rfl))))
 rw [e4,e3,e2] at g5
 rw [e3] at g4
 rw [e2,e1] at g3
 rw [e1] at g2
 have q':=q (zm5 s.heap l1 l2) g5 g3 g4 ⟨_,g1,rfl,rfl⟩ ⟨_,g2,rfl,rfl⟩ fun c o e=>Heap.get?_push_of_some _ (Heap.get?_push_of_some _ (Heap.get?_push_of_some _ (Heap.get?_push_of_some _ (Heap.get?_push_of_some _ e))))
 rw [e4]
 exact ⟨⟨_,g5,rfl⟩,q'⟩
end
def Itzm(K : PySem.W.Frag)(a b : Addr) : It :=
  ⟨fun i H => ∃ xs ys x y, SqT K H a xs /\ SqL K H b ys /\ xs.length = ys.length /\ xs[i]? = some x /\ ys[i]? = some y,
   fun i H v H' => ∃ p x y, v = .ref p /\ H p = none /\ H' = upd H p (.tup [x, y]) /\ (∀ xs, SqT K H a xs -> xs[i]? = some x) /\ ∀ ys, SqL K H b ys -> ys[i]? = some y,
   fun i H => ∃ xs ys, SqT K H a xs /\ SqL K H b ys /\ xs.length = i⟩
theorem f_s{P:Program}{w:World}{K:PySem.W.Frag}{elts:List Expr}{kk:Nat}{pos:Pos}(a b z TI TO i1 i2:Addr)(D:ZipApart z TI TO i1 i2 a b) :
  Turn P w K (.Tuple elts kk pos) (Itzm K a b) [z,TI,TO,i1,i2] z (fun i h=>IsZip h z TI TO .none/\IsPair h TI (.ref i1) (.ref i2)/\(∃ c d,IsPair h TO c d)/\h.IsTupleIter i1 a i/\h.IsListIter i2 b i) where
 mem:=by simp
 obj:=fun i h st c hc=>by
  obtain ⟨h1,h2,⟨x,y,h3⟩,⟨o4,e4,c4,d4⟩,⟨o5,e5,c5,d5⟩⟩:=st
  have hc':c=z\/c=TI\/c=TO\/c=i1\/c=i2:=by simpa using hc
  rcases hc' with rfl | rfl | rfl | rfl | rfl
  ·exact ⟨_,h1,fun v q=>by cases q⟩
  ·exact ⟨_,h2,fun v q=>by cases q⟩
  ·exact ⟨_,h3,fun v q=>by cases q⟩
  ·exact ⟨o4,e4,fun v q=>by rw [d4] at q;cases q⟩
  ·exact ⟨o5,e5,fun v q=>by rw [d5] at q;cases q⟩
 keep:=fun i h h' st k=>by
  obtain ⟨h1,h2,⟨x,y,h3⟩,⟨o4,e4,r4⟩,⟨o5,e5,r5⟩⟩:=st
  exact ⟨k z (by simp) _ h1,k TI (by simp) _ h2,⟨x,y,k TO (by simp) _ h3⟩,⟨o4,k i1 (by simp) _ e4,r4⟩,⟨o5,k i2 (by simp) _ e5,r5⟩⟩
 item:=by
  intro X hP hw hK hc i pins s σ H E I hf st hg
  subst hP hw hK
  obtain ⟨xs,ys,x,y,hq1,hq2,hll,hx,hy⟩:=hg
  obtain ⟨its1,rv1,p1,hz1⟩:=I.tuple hq1
  obtain ⟨its2,rv2,p2,hz2⟩:=I.list hq2
  obtain ⟨u1,hu1,ru1⟩:=rv1.get hx
  obtain ⟨u2,hu2,ru2⟩:=rv2.get hy
  obtain ⟨sz,sTI,⟨c,d,sTO⟩,s1,s2⟩:=st
  have hT:s.TypeIs (.ref z) "zip" := ⟨_,sz,rfl⟩
  have W1:=f_v (prog:=X.prog) (w:=X.w) i1 a D.l1i1 its1.toArray
  have W2:=wkr_lst (prog:=X.prog) (w:=X.w) i2 b D.l2i2 its2.toArray
  unfold pyNext;refine wpAny_bind (wpAny_attempt (wpAny_callSpecial?_slot (name:=Str.ofString "__next__") hT F.slot_zip_next (wpAny_call_entry F.slot_zip_next hT F.entry_zip_next (f_x D W1 W2 sz sTI sTO ⟨s1,p1⟩ ⟨s2,p2.isList⟩ (by have:=(List.getElem?_eq_some_iff.mp hu1).1;simpa using this) (by have:=(List.getElem?_eq_some_iff.mp hu2).1;simpa using this) fun v1 v2 h' px py b1 b2 b3 b4 b5 hk=>wpAny_pure ?_) (F.args_zip_next_1 _))))
  obtain rfl:v1=u1:=by have px':its1[i]? = some v1:=(by simpa using px);rw [hu1] at px';exact (Option.some.inj px').symm
  obtain rfl:v2=u2:=by have py':its2[i]? = some v2:=(by simpa using py);rw [hu2] at py';exact (Option.some.inj py').symm
  have lt:∀ {c o},s.heap.get? c=some o->c≠s.heap.objs.size:=fun e=>Nat.ne_of_lt (Heap.lt_size e)
  have I0:Inv X pins σ (upd H s.heap.objs.size (.tup [x,y])) { s with heap:=s.heap.push { cls:=.type "tuple",data:=.seq #[v1,v2] },toks:=s.toks } :=
   I.laid (a:=s.heap.objs.size) (o:=.tup [x,y]) (t':=s.toks) (fun b u e=>Heap.get?_push_of_some _ e) (Nat.le_refl _) ⟨zl2,[v1,v2],.cons ru1 (.cons ru2 .nil),_,Heap.get?_push_size _ rfl,rfl,_,rfl⟩
  have hnone:∀ c∈[z,TI,TO,i1,i2],(upd H s.heap.objs.size (.tup [x,y])) c=none:=fun c hc'=>by
   have hne:c≠s.heap.objs.size:=by
    have hc'':c=z\/c=TI\/c=TO\/c=i1\/c=i2:=by simpa using hc'
    rcases hc'' with rfl | rfl | rfl | rfl | rfl
    ·exact lt sz
    ·exact lt sTI
    ·exact lt sTO
    ·obtain ⟨_,e,_⟩:=s1;exact lt e
    ·obtain ⟨_,e,_⟩:=s2;exact lt e
   rw [z_r hne]
   exact (hf c hc').1
  have hf':∀ c∈[z,TI,TO,i1,i2],FpOk X pins (upd H s.heap.objs.size (.tup [x,y])) c:=fun c hc'=>⟨hnone c hc',(hf c hc').2⟩
  have kk1:∀ c o,c∉[z,TO,i1,i2]->(s.heap.push { cls:=.type "tuple",data:=.seq #[v1,v2] }).get? c=some o->h'.get? c=some o:=fun c o hn e=>by
   rcases Heap.get?_push_cases e with ⟨rfl,rfl⟩ | e'
   ·exact b5
   ·exact hk c o hn e'
  have kk2:∀ c∈[z,TO,i1,i2],FpOk X pins (upd H s.heap.objs.size (.tup [x,y])) c:=fun c hc'=>hf' c (by
   have hc'':c=z\/c=TO\/c=i1\/c=i2:=by simpa using hc'
   rcases hc'' with rfl | rfl | rfl | rfl<;>simp)
  have I1:=I0.turnedL (h':=h') (t':=s.toks) (ch:=[z,TO,i1,i2]) kk1 kk2
  refine ⟨_,rfl,wpAny_letOwnedTupleGo_zip b1 fun h2 c1 c2=>?_⟩
  have I2:=I1.turnedL (h':=h2) (t':=s.toks) (ch:=[z]) (fun c o hn e=>(c2.2 c (fun q=>hn (by simp [q]))).trans e) (fun c hc'=>hf' c (by rw [List.mem_singleton.mp hc'];simp))
  refine ⟨.ref s.heap.objs.size,_,I2,rfl,⟨_,x,y,rfl,I.hok.fresh (Nat.le_refl _),rfl,fun xs' q=>by rw [I.tuple_inj q hq1];exact hx,fun ys' q=>by rw [I.list_inj q hq2];exact hy⟩,?_,hnone⟩
  have mv:∀ c o,c≠z->h'.get? c=some o->h2.get? c=some o:=fun c o hn e=>(c2.2 c hn).trans e
  obtain ⟨⟨o3,e3,r3⟩,_⟩:=b3
  obtain ⟨⟨o4,e4,r4⟩,_⟩:=b4
  exact ⟨c1,mv _ _ D.TIz (hk _ _ (by simp [D.TIz,D.TITO,D.TIi1,D.TIi2]) sTI),⟨_,_,mv _ _ D.TOz b2⟩,⟨o3,mv _ _ D.i1z e3,r3⟩,⟨o4,mv _ _ D.i2z e4,r4⟩⟩
 done:=by
  intro X hP hw hK hc i pins s σ H E I hf st hg
  subst hP hw hK
  obtain ⟨xs,ys,hq1,hq2,hx⟩:=hg
  obtain ⟨its1,rv1,p1,hz1⟩:=I.tuple hq1
  have l1:=rv1.length
  obtain ⟨sz,sTI,⟨c,d,sTO⟩,s1,s2⟩:=st
  have hT:s.TypeIs (.ref z) "zip" := ⟨_,sz,rfl⟩
  have W1:=f_v (prog:=X.prog) (w:=X.w) i1 a D.l1i1 its1.toArray
  have ei:its1.toArray.size=i:=by simp;lia
  unfold pyNext;refine wpAny_bind (wpAny_attempt (wpAny_callSpecial?_slot (name:=Str.ofString "__next__") hT F.slot_zip_next (wpAny_call_entry F.slot_zip_next hT F.entry_zip_next (zipw_end (I.ok.hd hc) D W1 sz sTI (by rw [ei];exact ⟨s1,p1⟩) fun h' e hk ⟨oe,e1,e2⟩=>?_) (F.args_zip_next_1 _))))
  refine wpAny_bind (wpAny_isInstance (T := "StopIteration") (b:=true) ⟨oe,e1,e2⟩ isSubtype_stop (wpAny_pure ⟨rfl,I.turnedL (t':=s.toks) (ch:=[z,TO,i1,i2]) hk fun c hc'=>hf c ?_⟩))
  have hc'':c=z\/c=TO\/c=i1\/c=i2:=by simpa using hc'
  rcases hc'' with rfl | rfl | rfl | rfl<;>simp
 self:=fun _ _ _ _ _ st h=>wpAny_pyIter_zip st.1 h
def iZipm(K:PySem.W.Frag)(ta:TA):TI:=fun σ H R=>ta σ H fun vs H1=>∃ a b,vs=[.ref a,.ref b]/\(∃ xs,SqT K H1 a xs)/\(∃ ys,SqL K H1 b ys)/\R (Itzm K a b) H1
theorem pi_zipm{X:Cx}{elts:List Expr}{kk:Nat}{tpos:Pos}{a b:Expr}{ta:TA}{p pos:Pos}(hg:Gl X "zip")(hm:X.mg "zip" = none)(ha:PA X [a,b] ta)(hs:starEach [a,b] X.env=[(false,eval a X.env),(false,eval b X.env)]:=by rfl)(hs2:starEach [b] X.env=[(false,eval b X.env)]:=by rfl) :
  PI X (.Tuple elts kk tpos) (.Call (.Name "zip" p) [a,b] [] pos) (iZipm X.K ta):=by
 intro pins s σ H R I h
 refine Call_ (t_f I hg hm PyProof.Rows.boot_zip (PyProof.Rows.callWith_type1 (thn (ha pos pins s σ H _ I h) fun us s1 ⟨vs,H1,I1,r1,q1⟩=>?_) (by rw [hs,hs2]) (by rw [hs2];rfl)))
 obtain ⟨l1,l2,e,⟨xs,hq1⟩,⟨ys,hq2⟩,q⟩:=q1
 subst e
 cases r1 with
 | cons r rr =>
  cases rr with
  | cons r' rr =>
   cases rr
   cases r
   cases r'
   obtain ⟨its1,rv1,p1,hz1⟩:=I1.tuple hq1
   obtain ⟨its2,rv2,p2,hz2⟩:=I1.list hq2
   have hlt1 : @LT.lt Nat _ l1 s1.heap.objs.size:=by obtain ⟨o,e,_⟩:=p1;exact Heap.lt_size e
   have hlt2 : @LT.lt Nat _ l2 s1.heap.objs.size:=by obtain ⟨o,e,_⟩:=p2.isList;exact Heap.lt_size e
   refine f_w p1 p2.isList fun h' hz hTI hTO hi1 hi2 hk=>wpAny_pyIter_zip hz ?_
   have D:ZipApart (s1.heap.objs.size+4) (s1.heap.objs.size+2) (s1.heap.objs.size+3) s1.heap.objs.size (s1.heap.objs.size+1) l1 l2:=PySem.W.ktu_apart _ _ _ hlt1 hlt2
   refine ⟨_,[s1.heap.objs.size+4,s1.heap.objs.size+2,s1.heap.objs.size+3,s1.heap.objs.size,s1.heap.objs.size+1],_,_,H1,rfl,I1.kept (t':=s1.toks) hk,f_s l1 l2 _ _ _ _ _ D,⟨hz,hTI,⟨_,_,hTO⟩,hi1,hi2⟩,fun c hc=>?_,q⟩
   have hc':c=s1.heap.objs.size+4\/c=s1.heap.objs.size+2\/c=s1.heap.objs.size+3\/c=s1.heap.objs.size\/c=s1.heap.objs.size+1:=by simpa using hc
   have hle : @LE.le Nat _ s1.heap.objs.size c:=by
    rcases hc' with rfl | rfl | rfl | rfl | rfl
    ·exact Nat.le_add_right _ _
    ·exact Nat.le_add_right _ _
    ·exact Nat.le_add_right _ _
    ·exact Nat.le_refl _
    ·exact Nat.le_add_right _ _
   exact I1.fpOk hle (I1.hok.fresh hle)
theorem for_zipm{K:PySem.W.Frag}{a b:Addr}{xs ys:List V}{g:TG}{tb:TS}{D:Ends}{σ:St}{H:Hp}(Pv:Nat->St->Hp->Prop)(h0:Pv 0 σ H)(hl:∀ i σ H,Pv i σ H->SqT K H a xs/\SqL K H b ys)(he:xs.length=ys.length)
  (hs:∀ i x y p σ H,xs[i]? = some x->ys[i]? = some y->Pv i σ H->H p=none->g (.ref p) σ (upd H p (.tup [x,y])) fun σ2 H2=>tb { D with nx:=Pv (i+1),ct:=Pv (i+1),bk:=D.nx } σ2 H2) (hd:∀ σ H,Pv xs.length σ H->D.nx σ H) :
  ∃ W:Nat->Nat->St->Hp->Prop,(∃ m,W 0 m σ H)/\∀ i m σ H,W i m σ H ->
   ((Itzm K a b).stop i H/\D.nx σ H)\/((Itzm K a b).go i H/\∃ N:St->Hp->Prop,(∀ σ' H',N σ' H'->∃ m',m'<m/\W (i+1) m' σ' H')/\∀ x H',(Itzm K a b).yld i H x H'->g x σ H' fun σ2 H2=>tb { D with nx:=N,ct:=N,bk:=D.nx } σ2 H2):=by
 refine ⟨fun i m σ H=>m=xs.length-i/\i<=xs.length/\Pv i σ H,⟨xs.length,by simp,Nat.zero_le _,h0⟩,?_⟩
 rintro i m σ H ⟨rfl,hi,p⟩
 obtain ⟨q1,q2⟩:=hl i σ H p
 by_cases hlt:i<xs.length
 ·have hlt2:i<ys.length:=by lia
  refine .inr ⟨⟨xs,ys,xs[i],ys[i],q1,q2,he,by simp [hlt],by simp [hlt2]⟩,Pv (i+1),fun σ' H' p'=>⟨xs.length-(i+1),by lia,rfl,hlt,p'⟩,fun v H' y=>?_⟩
  obtain ⟨r,x,y,rfl,hn,rfl,e1,e2⟩:=y
  exact hs i x y r σ H (e1 xs q1) (e2 ys q2) p hn
 ·have e:i=xs.length:=by lia
  subst e
  exact .inl ⟨⟨xs,ys,q1,q2,rfl⟩,hd σ H p⟩
open PySem PySem.Spec PyProof.Rows
section
variable {X:Cx}
theorem j_s{pins:List (Addr×Obj)}{σ:St}{H:Hp}{s:Shared}{A:Around}{E:Value->Shared->Prop}{Q:Value->Shared->Prop}{b:Bool}{x:V}{u t:Value}{tp:Addr}{dd:Option Addr}{its:List Value}{n:Nat}{sl:Array (Option Value)}
  (I:Inv X pins σ H s) (rx:RelV x u) (ty:TyOf X.K H x t) (htp:s.heap.get? tp=some ⟨.type "tuple",dd,.seq its.toArray n,sl⟩) (e:kitAny X.K t its=some b) (h:∀ tk,Q (.bool b) { s with toks:=tk }) :
  wpAny (model X.prog X.w) A (call (.builtin "isinstance") [u,.ref tp]) Q E s:=by
 cases ty with
 | non=>cases (show u=Value.none from rx);exact kia_tup PySem.W.kitx_none I.kIn True.intro htp e (fun z=>nomatch z) h
 | bl y=>cases (show u=Value.bool y from rx);exact kia_tup PySem.W.kitx_bool I.kIn True.intro htp e (fun z=>nomatch z) h
 | int i=>obtain ⟨t,q⟩:=(show ∃ t,u=Value.int i t from rx);cases q;exact kia_tup PySem.W.kitx_int I.kIn True.intro htp e (fun z=>nomatch z) h
 | str y=>obtain ⟨t,q⟩:=(show ∃ t,u=Value.str y t from rx);cases q;exact kia_tup PySem.W.kitx_str I.kIn True.intro htp e (fun z=>nomatch z) h
 | flt y=>obtain ⟨t,q⟩:=(show ∃ t,u=Value.float y t from rx);cases q;exact kia_tup PySem.W.kitx_float I.kIn True.intro htp e (fun z=>nomatch z) h
 | @lst a xs ea =>
  cases (show u=Value.ref a from rx)
  obtain ⟨_,_,n,_,h1⟩:=(show ObjOk X.prog X.w H s.heap a (.lst xs) from I.hok a _ ea)
  exact kia_tup kitx_list I.kIn ⟨_,h1,rfl⟩ htp e (fun z=>nomatch z) h
 | @frz a ob xs ea =>
  cases (show u=Value.ref a from rx)
  obtain ⟨_,_,_,n,_,h1⟩:=(show ObjOk X.prog X.w H s.heap a (.frz ob (.lst xs)) from I.hok a _ ea)
  exact kia_tup kitx_list I.kIn ⟨_,h1,rfl⟩ htp e (fun z=>nomatch z) h
 | @tup a xs ea =>
  cases (show u=Value.ref a from rx)
  obtain ⟨_,_,_,p⟩:=(show ObjOk X.prog X.w H s.heap a (.tup xs) from I.hok a _ ea)
  obtain ⟨o,h1,h2,_⟩:=p
  exact kia_tup PySem.W.kitx_tuple I.kIn ⟨o,h1,h2⟩ htp e (fun z=>nomatch z) h
 | @dK a kvs ea =>
  cases (show u=Value.ref a from rx)
  obtain ⟨_,_,vs,_,p⟩:=(show ObjOk X.prog X.w H s.heap a (.dK kvs) from I.hok a _ ea)
  obtain ⟨o,es,ep,h1,h2,_⟩:=p
  exact kia_tup kitx_dict I.kIn ⟨o,h1,h2.1⟩ htp e (fun z=>nomatch z) h
 | @dT a kvs ea =>
  cases (show u=Value.ref a from rx)
  obtain ⟨_,_,xs,_,o,es,ep,h1,h2,_⟩:=(show ObjOk X.prog X.w H s.heap a (.dT kvs) from I.hok a _ ea)
  exact kia_tup kitx_dict I.kIn ⟨o,h1,h2.1⟩ htp e (fun z=>nomatch z) h
 | @ins a C dx fs ea cl ha hn htk hm =>
  cases (show u=Value.ref a from rx)
  obtain ⟨mA,O,_⟩:=r_c I.hok ea
  obtain ⟨od,J,_⟩:=O.look
  exact kia_tup (PySem.W.kitx_own (cl.get _) cl.hd ha hn htk hm) I.kIn J htp e (fun z=>nomatch z) h
theorem j_g{K:PySem.W.Frag}(hK:X.K=K){S T:String}:CallR X (.builtin "isinstance") (fun xs H Q=>∃ x p t b,xs=[x,.ref p]/\H p=some (.tup [.ty S,.ty T])/\TyOf K H x t/\kitAny K t [.type S,.type T]=some b/\Q (.bl b) H):=by
 subst hK
 intro pins s σ H xs us Q I r h
 obtain ⟨x,p,t,b,rfl,hp,ty,e,q⟩:=h
 obtain ⟨u,w',rfl,rx,rt⟩:=vals2 r
 cases (show w'=Value.ref p from rt)
 obtain ⟨_,its,rv,ob,e1,e2,n,e3⟩:=(show ObjOk X.prog X.w H s.heap p (.tup [.ty S,.ty T]) from I.hok p _ hp)
 obtain ⟨a,b',rfl,ra,rb⟩:=vals2 rv
 cases (show a=Value.type S from ra)
 cases (show b'=Value.type T from rb)
 obtain ⟨cl,dd,da,sl⟩:=ob
 dsimp only at e2 e3
 subst e2 e3
 exact j_s I rx ty e1 e fun tk=>⟨.bl b,H,I.tok _,rfl,q⟩
end
end L2
set_option maxHeartbeats 4000000
namespace K39
open PySem L2
def top(i:Nat):Stmt:=PySem.Challenge.pw_lampforge_k39_papers_by_hand.main.body.getD i (.Pass ⟨0,0,0,0⟩)
abbrev x_r:Stmt:=inClass (top 1) 0
abbrev x_l:Stmt:=inClass (top 1) 1
abbrev x_k:Stmt:=inClass (top 1) 2
abbrev x_s:Stmt:=inClass (top 1) 3
abbrev u_t:Stmt:=top 7
abbrev v_b:Stmt:=top 8
abbrev v_v:Stmt:=top 9
abbrev v_a:Stmt:=top 10
abbrev u_s:Stmt:=top 11
abbrev v_w:Stmt:=top 12
abbrev v_s:Stmt:=top 14
abbrev w_f:Stmt:=top 15
abbrev w_d:Stmt:=top 17
abbrev v_t:Stmt:=top 19
abbrev t_w:Stmt:=top 20
abbrev u_q:Stmt:=top 21
abbrev t_v:Stmt:=top 22
abbrev w_x:Stmt:=top 23
abbrev w_i:Stmt:=top 24
abbrev u_p:Stmt:=top 28
abbrev u_r:Stmt:=top 29
abbrev y_f:Stmt:=top 30
abbrev w_w:Stmt:=top 31
abbrev y_i:Stmt:=top 32
abbrev u_d:Stmt:=top 33
abbrev v_r:Stmt:=top 34
abbrev r_u:Stmt:=top 35
abbrev w_h:Stmt:=top 37
abbrev x_x:Stmt:=top 38
abbrev w_g:Stmt:=top 39
abbrev w_y:Stmt:=top 40
abbrev w_e:Stmt:=top 41
abbrev w_j:Stmt:=top 42
abbrev w_z:Stmt:=top 43
abbrev v_u:Stmt:=top 44
abbrev r_t:Stmt:=top 46
abbrev t_s:Stmt:=top 47
abbrev t_u:Stmt:=top 48
abbrev r_s:Stmt:=top 49
abbrev w_v:Stmt:=top 50
abbrev v_o:Stmt:=top 51
abbrev t_r:Stmt:=top 52
abbrev t_t:Stmt:=top 53
abbrev u_n:Stmt:=top 54
abbrev v_p:Stmt:=top 55
abbrev v_q:Stmt:=top 56
abbrev u_o:Stmt:=top 57
abbrev f_a:Stmt:=top 58
abbrev t_g:Stmt:=inClass (top 5) 0
theorem r_v:FnScope ["self", "knots"] ["self", "knots"] (z_p x_r):=⟨rfl,rfl,rfl,by decide +kernel,rfl,by decide +kernel,by decide +kernel⟩
theorem sc_Classes_least:FnScope ["self", "end", "lesser", "way", "passed"] ["self", "end"] (z_p x_l):=⟨rfl,rfl,rfl,by decide +kernel,rfl,by decide +kernel,by decide +kernel⟩
theorem s_n:FnScope ["self", "one", "other"] ["self", "one", "other"] (z_p x_k):=⟨rfl,rfl,rfl,by decide +kernel,rfl,by decide +kernel,by decide +kernel⟩
theorem sc_Classes_join:FnScope ["self", "one", "other", "low", "high"] ["self", "one", "other"] (z_p x_s):=⟨rfl,rfl,rfl,by decide +kernel,rfl,by decide +kernel,by decide +kernel⟩
theorem i_l:FnScope ["work"] ["work"] (z_p u_t):=⟨rfl,rfl,rfl,by decide +kernel,rfl,by decide +kernel,by decide +kernel⟩
theorem n_r:FnScope ["work"] ["work"] (z_p v_b):=⟨rfl,rfl,rfl,by decide +kernel,rfl,by decide +kernel,by decide +kernel⟩
theorem sc_next_net:FnScope ["work", "gates"] ["work"] (z_p v_v):=⟨rfl,rfl,rfl,by decide +kernel,rfl,by decide +kernel,by decide +kernel⟩
theorem sc_start_end:FnScope ["work", "end", "box"] ["work", "end"] (z_p v_a):=⟨rfl,rfl,rfl,by decide +kernel,rfl,by decide +kernel,by decide +kernel⟩
theorem i_k:FnScope ["work", "end"] ["work", "end"] (z_p u_s):=⟨rfl,rfl,rfl,by decide +kernel,rfl,by decide +kernel,by decide +kernel⟩
theorem sc_then_end:FnScope ["work", "end", "box"] ["work", "end"] (z_p v_w):=⟨rfl,rfl,rfl,by decide +kernel,rfl,by decide +kernel,by decide +kernel⟩
theorem l_l:FnScope ["thing"] ["thing"] (z_p v_s):=⟨rfl,rfl,rfl,by decide +kernel,rfl,by decide +kernel,by decide +kernel⟩
theorem p_n:FnScope ["thing", "low", "high"] ["thing", "low", "high"] (z_p w_f):=⟨rfl,rfl,rfl,by decide +kernel,rfl,by decide +kernel,by decide +kernel⟩
theorem sc_all_stands:FnScope ["many", "numbers", "high", "beyond", "place"] ["many"] (z_p w_d):=⟨rfl,rfl,rfl,by decide +kernel,rfl,by decide +kernel,by decide +kernel⟩
theorem l_m:FnScope ["work"] ["work"] (z_p v_t):=⟨rfl,rfl,rfl,by decide +kernel,rfl,by decide +kernel,by decide +kernel⟩
theorem f_d:FnScope ["thing", "knots"] ["thing", "knots"] (z_p t_w):=⟨rfl,rfl,rfl,by decide +kernel,rfl,by decide +kernel,by decide +kernel⟩
theorem i_j:FnScope ["thing", "knots"] ["thing", "knots"] (z_p u_q):=⟨rfl,rfl,rfl,by decide +kernel,rfl,by decide +kernel,by decide +kernel⟩
theorem sc_beside:FnScope ["one", "other", "boxes", "gates", "outs"] ["one", "other"] (z_p t_v):=⟨rfl,rfl,rfl,by decide +kernel,rfl,by decide +kernel,by decide +kernel⟩
theorem n_p:FnScope ["one", "other", "end"] ["one", "other", "end"] (z_p w_x):=⟨rfl,rfl,rfl,by decide +kernel,rfl,by decide +kernel,by decide +kernel⟩
theorem p_o:FnScope ["one", "other", "end"] ["one", "other", "end"] (z_p w_i):=⟨rfl,rfl,rfl,by decide +kernel,rfl,by decide +kernel,by decide +kernel⟩
theorem sc_is_good:FnScope ["net", "classes", "step", "found"] ["net", "classes", "step"] (z_p u_p):=⟨rfl,rfl,rfl,by decide +kernel,rfl,by decide +kernel,by decide +kernel⟩
theorem sc_is_step:FnScope ["net", "classes", "thing", "knots", "knots_of_leaves"] ["net", "classes", "thing"] (z_p u_r):=⟨rfl,rfl,rfl,by decide +kernel,rfl,by decide +kernel,by decide +kernel⟩
theorem sc_bits_of_both:FnScope ["net", "classes", "step", "stands", "high", "given", "leaf", "bits", "turned"] ["net", "classes", "step"] (z_p y_f):=⟨rfl,rfl,rfl,by decide +kernel,rfl,by decide +kernel,by decide +kernel⟩
theorem n_o:FnScope ["one", "other"] ["one", "other"] (z_p w_w):=⟨rfl,rfl,rfl,by decide +kernel,rfl,by decide +kernel,by decide +kernel⟩
theorem sc_found_of:FnScope ["net", "classes", "given", "ends", "turned", "both", "found", "gates", "waiting", "end", "things"] ["net", "classes", "given", "ends", "turned", "both"] (z_p v_r):=⟨rfl,rfl,rfl,by decide +kernel,rfl,by decide +kernel,by decide +kernel⟩
theorem sc_below:FnScope ["net", "end"] ["net", "end"] (z_p r_u):=⟨rfl,rfl,rfl,by decide +kernel,rfl,by decide +kernel,by decide +kernel⟩
theorem sc_look_paper:FnScope ["work", "goals", "paper", "kept", "number", "thing"] ["work", "goals", "paper"] (z_p w_h):=⟨rfl,rfl,rfl,by decide +kernel,rfl,by decide +kernel,by decide +kernel⟩
theorem sc_look_starts:FnScope ["work", "kept", "steps", "classes", "one", "other"] ["work", "kept", "steps"] (z_p x_x):=⟨rfl,rfl,rfl,by decide +kernel,rfl,by decide +kernel,by decide +kernel⟩
theorem sc_look_nexts:FnScope ["work", "kept", "steps", "classes", "number", "pair", "one", "other"] ["work", "kept", "steps"] (z_p w_g):=⟨rfl,rfl,rfl,by decide +kernel,rfl,by decide +kernel,by decide +kernel⟩
theorem sc_look_nows:FnScope ["work", "kept", "goals", "steps", "classes", "one", "other"] ["work", "kept", "goals", "steps"] (z_p w_y):=⟨rfl,rfl,rfl,by decide +kernel,rfl,by decide +kernel,by decide +kernel⟩
theorem p_m:FnScope ["net"] ["net"] (z_p w_e):=⟨rfl,rfl,rfl,by decide +kernel,rfl,by decide +kernel,by decide +kernel⟩
theorem sc_take_steps:FnScope ["net", "classes", "steps", "where", "number", "step"] ["net", "classes", "steps", "where"] (z_p w_j):=⟨rfl,rfl,rfl,by decide +kernel,rfl,by decide +kernel,by decide +kernel⟩
theorem n_q:FnScope ["one", "other"] ["one", "other"] (z_p w_z):=⟨rfl,rfl,rfl,by decide +kernel,rfl,by decide +kernel,by decide +kernel⟩
theorem sc_look_two:FnScope ["one", "other", "paper", "goals"] ["one", "other", "paper"] (z_p v_u):=⟨rfl,rfl,rfl,by decide +kernel,rfl,by decide +kernel,by decide +kernel⟩
theorem sc_L_row:FnScope ["_law_script", "_law_at", "_law_many", "_law_cell", "_law_rest", "_law_great", "_law_row_here", "_law_k", "_law_one"] ["_law_script", "_law_at", "_law_many"] (z_p r_t):=⟨rfl,rfl,rfl,by decide +kernel,rfl,by decide +kernel,by decide +kernel⟩
theorem f_c:FnScope ["_law_number", "_law_many"] ["_law_number", "_law_many"] (z_p t_s):=⟨rfl,rfl,rfl,by decide +kernel,rfl,by decide +kernel,by decide +kernel⟩
theorem sc_L_work:FnScope ["_law_row_here", "_law_sizes", "_law_ins", "_law_many", "_law_knots", "_law_some", "_law_k", "_law_kept"] ["_law_row_here", "_law_sizes"] (z_p t_u):=⟨rfl,rfl,rfl,by decide +kernel,rfl,by decide +kernel,by decide +kernel⟩
theorem sc_L_end:FnScope ["_law_ends", "_law_end_here"] ["_law_ends", "_law_end_here"] (z_p r_s):=⟨rfl,rfl,rfl,by decide +kernel,rfl,by decide +kernel,by decide +kernel⟩
theorem n_n:FnScope ["_law_ends", "_law_work_here"] ["_law_ends", "_law_work_here"] (z_p w_v):=⟨rfl,rfl,rfl,by decide +kernel,rfl,by decide +kernel,by decide +kernel⟩
theorem sc_L_joined:FnScope ["_law_labels", "_law_one", "_law_other", "_law_pairs"] ["_law_labels", "_law_one", "_law_other"] (z_p v_o):=⟨rfl,rfl,rfl,by decide +kernel,rfl,by decide +kernel,by decide +kernel⟩
theorem sc_L_nets:FnScope ["_law_work_here", "_law_ins", "_law_many", "_law_first", "_law_plain", "_law_begin", "_law_now", "_law_then", "_law_both", "_law_starts"] ["_law_work_here"] (z_p t_r):=⟨rfl,rfl,rfl,by decide +kernel,rfl,by decide +kernel,by decide +kernel⟩
theorem sc_L_twin:FnScope ["_law_work_here", "_law_row_here", "_law_first", "_law_ends", "_law_gates", "_law_k", "_law_pair", "_law_boxes"] ["_law_work_here", "_law_row_here"] (z_p t_t):=⟨rfl,rfl,rfl,by decide +kernel,rfl,by decide +kernel,by decide +kernel⟩
theorem sc_L_joint:FnScope ["_law_one", "_law_other", "_law_ins", "_law_many", "_law_rows", "_law_work_here", "_law_box", "_law_gate", "_law_row_here", "_law_boxes", "_law_outs", "_law_gates"] ["_law_one", "_law_other"] (z_p u_n):=⟨rfl,rfl,rfl,by decide +kernel,rfl,by decide +kernel,by decide +kernel⟩
theorem sc_L_leaves:FnScope ["_law_labels", "_law_pair", "_law_found", "_law_seen", "_law_end_here"] ["_law_labels", "_law_pair"] (z_p v_p):=⟨rfl,rfl,rfl,by decide +kernel,rfl,by decide +kernel,by decide +kernel⟩
theorem sc_L_walked:FnScope ["_law_one", "_law_rows", "_law_twin_here", "_law_net", "_law_goes", "_law_pairs", "_law_labels", "_law_a", "_law_b", "_law_steps", "_law_first", "_law_k", "_law_mine", "_law_yours", "_law_ends"] ["_law_one", "_law_rows", "_law_twin_here", "_law_net", "_law_goes", "_law_pairs"] (z_p v_q):=⟨rfl,rfl,rfl,by decide +kernel,rfl,by decide +kernel,by decide +kernel⟩
theorem sc_L_paper:FnScope ["_law_one", "_law_other", "_law_twin_here", "_law_joint_here", "_law_rows", "_law_nets_here", "_law_kept", "_law_k", "_law_nexts"] ["_law_one", "_law_other", "_law_twin_here"] (z_p u_o):=⟨rfl,rfl,rfl,by decide +kernel,rfl,by decide +kernel,by decide +kernel⟩
theorem sc_law:FnScope ["_law_script", "_law_k", "_law_one", "_law_other", "_law_twin_here", "_law_paper_here", "_law_kept", "_law_joint_here", "_law_rows", "_law_goals", "_law_handed", "_law_tight", "_law_bare"] ["_law_script"] (z_p f_a):=⟨rfl,rfl,rfl,by decide +kernel,rfl,by decide +kernel,by decide +kernel⟩
abbrev z_q:Pos:=⟨139,4,140,52⟩
abbrev z_n:Str := "bits_of_both.<locals>.turned"
abbrev y_y:Pos:=⟨151,52,151,72⟩
abbrev y_z:Str := "sets_of_both.<locals>.<lambda>"
set_option genInjectivity false in
set_option genSizeOfSpec false in
structure Ad where
 a_Classes_init:Addr
 d_Classes_init:FuncData
 a_Classes_least:Addr
 d_Classes_least:FuncData
 a_Classes_alike:Addr
 d_Classes_alike:FuncData
 a_Classes_join:Addr
 d_Classes_join:FuncData
 a_now_net:Addr
 d_now_net:FuncData
 a_start_net:Addr
 d_start_net:FuncData
 a_next_net:Addr
 d_next_net:FuncData
 a_start_end:Addr
 d_start_end:FuncData
 a_now_end:Addr
 d_now_end:FuncData
 a_then_end:Addr
 d_then_end:FuncData
 a_is_whole:Addr
 d_is_whole:FuncData
 a_is_between:Addr
 d_is_between:FuncData
 a_all_stands:Addr
 d_all_stands:FuncData
 a_knots_in:Addr
 d_knots_in:FuncData
 a_is_end:Addr
 d_is_end:FuncData
 a_is_pair:Addr
 d_is_pair:FuncData
 a_beside:Addr
 d_beside:FuncData
 a_first_end:Addr
 d_first_end:FuncData
 a_second_end:Addr
 d_second_end:FuncData
 a_is_good:Addr
 d_is_good:FuncData
 a_is_step:Addr
 d_is_step:FuncData
 a_bits_of_both:Addr
 d_bits_of_both:FuncData
 a_both_bits:Addr
 d_both_bits:FuncData
 a_sets_of_both:Addr
 d_sets_of_both:FuncData
 a_both_sets:Addr
 d_both_sets:FuncData
 a_found_of:Addr
 d_found_of:FuncData
 a_below:Addr
 d_below:FuncData
 a_look_paper:Addr
 d_look_paper:FuncData
 a_look_starts:Addr
 d_look_starts:FuncData
 a_look_nexts:Addr
 d_look_nexts:FuncData
 a_look_nows:Addr
 d_look_nows:FuncData
 a_classes_of:Addr
 d_classes_of:FuncData
 a_take_steps:Addr
 d_take_steps:FuncData
 a_look_pair:Addr
 d_look_pair:FuncData
 a_look_two:Addr
 d_look_two:FuncData
 a_L_row:Addr
 d_L_row:FuncData
 a_L_size:Addr
 d_L_size:FuncData
 a_L_work:Addr
 d_L_work:FuncData
 a_L_end:Addr
 d_L_end:FuncData
 a_L_swapped:Addr
 d_L_swapped:FuncData
 a_L_joined:Addr
 d_L_joined:FuncData
 a_L_nets:Addr
 d_L_nets:FuncData
 a_L_twin:Addr
 d_L_twin:FuncData
 a_L_joint:Addr
 d_L_joint:FuncData
 a_L_leaves:Addr
 d_L_leaves:FuncData
 a_L_walked:Addr
 d_L_walked:FuncData
 a_L_paper:Addr
 d_L_paper:FuncData
 a_law:Addr
 d_law:FuncData
 a_MOST_LEAVES:Addr
 c_Classes:Addr
 tc_bits_of_both:Addr
 tp_bits_of_both:Addr
 tc_sets_of_both:Addr
 tp_sets_of_both:Addr
def m_a:Sp:=fun vs H Q _=>∃ i:Int,vs=[.int i]/\Q (.bl true) H
def f_g:Sp:=fun vs H Q _=>∃ i lo hi:Int,vs=[.int i,.int lo,.int hi]/\Q (.bl (decide (lo<=i)&&decide (i<=hi))) H
def l_o:Sp:=fun vs H Q _=>∃ i k:Int,vs=[.int i,.int k]/\Q (.bl (decide (0<=i)&&decide (i<=2*k-1))) H
def nv_any:Sp:=fun _ _ _ _=>False
theorem no_fn{P:Program}{w:World}{K:PySem.W.Frag}{mg:Str->Option Value}{base:Heap}{k:Nat}{f:Addr}{fd:FuncData}{ps:List Str}:FnOk P w K mg base CX0 k f fd ps nv_any:=⟨fun vs H Q E q=>(show False from q).elim,fun _ _ _ _ _ _ _ _ _ _ _ _ _ q=>(show False from q).elim⟩
def f_i(K:PySem.W.Frag)(P:Addr)(lp:Pos)(lq:Str)(P2:Addr)(lp2:Pos)(lq2:Str):Sp:=fun vs H Q _=>∃ (a:Addr) (ns:List Int),vs=[.ref a]/\SqL K H a (ns.map V.int)/\ns.length<=63/\H P=some (.tbl lp lq)/\H P2=some (.tbl lp2 lq2)/\∀ H',Q (.bl true) H'
def t_z:Sp:=fun vs H Q _=>∃ (w b g o w' b' g' o':Addr) (A B:Wk),vs=[.ref w,.ref w']/\IsWkA H w b g o A/\IsWkA H w' b' g' o' B/\A.ins=B.ins/\A.outs.length=B.outs.length/\Q .non H
def q_b(C tp:Addr)(lp:Pos)(lq:Str):Sp:=fun vs H Q _=>∃ (w b g o w' b' g' o' p:Addr) (A B:Wk) (goals kept:List (Nat×Nat)) (s2 s3:List Stp),vs=[.ref w,.ref w',.ref p]/\IsWkA H w b g o A/\IsWkA H w' b' g' o' B/\A.Ok/\B.Ok/\A.ins=B.ins/\A.outs.length=B.outs.length/\(bes A B).Ok/\(bes A B).knots<=400/\PaperA H p kept s2 s3 /\
 gI goals=((A.outs.zip B.outs).map fun q=>(F1 A B q.1,F2 A B q.2))/\PaperOk (bes A B) goals kept s2 s3/\H tp=some (.tbl lp lq)/\∀ H',Same H H'->Q .non H'
structure Tx(w:World)(K:PySem.W.Frag)(mg:Str->Option Value)(A:Ad):Prop where
 abs:mg "abs" = none
 all:mg "all" = none
 bool:mg "bool" = none
 enumerate:mg "enumerate" = none
 int:mg "int" = none
 isinstance:mg "isinstance" = none
 len:mg "len" = none
 list:mg "list" = none
 max:mg "max" = none
 min:mg "min" = none
 range:mg "range" = none
 set:mg "set" = none
 sorted:mg "sorted" = none
 str:mg "str" = none
 tuple:mg "tuple" = none
 zip:mg "zip" = none
 g_MOST_LEAVES:mg "MOST_LEAVES" = some (.ref A.a_MOST_LEAVES)
 D_MOST_LEAVES:∃ kvs,TopD w K A.a_MOST_LEAVES kvs/\kvs.lookup ("stands" : Str)=some (V.int 6)
 g_LOW:∃ t,mg "LOW" = some (.str "low" t)
 F_Classes_init:Fun K "__init__" "Classes.__init__" x_r A.a_Classes_init A.d_Classes_init
 B_Classes_init:Binds K A.d_Classes_init ["self", "knots"] []
 mk_Classes:Mk K A.c_Classes A.a_Classes_init
 F_Classes_least:Fun K "least" "Classes.least" x_l A.a_Classes_least A.d_Classes_least
 B_Classes_least:Binds K A.d_Classes_least ["self", "end"] []
 me_Classes_least:Meth K A.c_Classes "least" A.a_Classes_least
 F_Classes_alike:Fun K "alike" "Classes.alike" x_k A.a_Classes_alike A.d_Classes_alike
 B_Classes_alike:Binds K A.d_Classes_alike ["self", "one", "other"] []
 me_Classes_alike:Meth K A.c_Classes "alike" A.a_Classes_alike
 F_Classes_join:Fun K "join" "Classes.join" x_s A.a_Classes_join A.d_Classes_join
 B_Classes_join:Binds K A.d_Classes_join ["self", "one", "other"] []
 me_Classes_join:Meth K A.c_Classes "join" A.a_Classes_join
 F_now_net:Fun K "now_net" "now_net" u_t A.a_now_net A.d_now_net
 B_now_net:Binds K A.d_now_net ["work"] []
 M_now_net:mg "now_net" = some (.ref A.a_now_net)
 F_start_net:Fun K "start_net" "start_net" v_b A.a_start_net A.d_start_net
 B_start_net:Binds K A.d_start_net ["work"] []
 M_start_net:mg "start_net" = some (.ref A.a_start_net)
 F_next_net:Fun K "next_net" "next_net" v_v A.a_next_net A.d_next_net
 B_next_net:Binds K A.d_next_net ["work"] []
 M_next_net:mg "next_net" = some (.ref A.a_next_net)
 F_start_end:Fun K "start_end" "start_end" v_a A.a_start_end A.d_start_end
 B_start_end:Binds K A.d_start_end ["work", "end"] []
 M_start_end:mg "start_end" = some (.ref A.a_start_end)
 F_now_end:Fun K "now_end" "now_end" u_s A.a_now_end A.d_now_end
 B_now_end:Binds K A.d_now_end ["work", "end"] []
 M_now_end:mg "now_end" = some (.ref A.a_now_end)
 F_then_end:Fun K "then_end" "then_end" v_w A.a_then_end A.d_then_end
 B_then_end:Binds K A.d_then_end ["work", "end"] []
 M_then_end:mg "then_end" = some (.ref A.a_then_end)
 F_is_whole:Fun K "is_whole" "is_whole" v_s A.a_is_whole A.d_is_whole
 B_is_whole:Binds K A.d_is_whole ["thing"] []
 M_is_whole:mg "is_whole" = some (.ref A.a_is_whole)
 F_is_between:Fun K "is_between" "is_between" w_f A.a_is_between A.d_is_between
 B_is_between:Binds K A.d_is_between ["thing", "low", "high"] []
 M_is_between:mg "is_between" = some (.ref A.a_is_between)
 F_all_stands:Fun K "all_stands" "all_stands" w_d A.a_all_stands A.d_all_stands
 B_all_stands:Binds K A.d_all_stands ["many"] []
 M_all_stands:mg "all_stands" = some (.ref A.a_all_stands)
 F_knots_in:Fun K "knots_in" "knots_in" v_t A.a_knots_in A.d_knots_in
 B_knots_in:Binds K A.d_knots_in ["work"] []
 M_knots_in:mg "knots_in" = some (.ref A.a_knots_in)
 F_is_end:Fun K "is_end" "is_end" t_w A.a_is_end A.d_is_end
 B_is_end:Binds K A.d_is_end ["thing", "knots"] []
 M_is_end:mg "is_end" = some (.ref A.a_is_end)
 F_is_pair:Fun K "is_pair" "is_pair" u_q A.a_is_pair A.d_is_pair
 B_is_pair:Binds K A.d_is_pair ["thing", "knots"] []
 M_is_pair:mg "is_pair" = some (.ref A.a_is_pair)
 F_beside:Fun K "beside" "beside" t_v A.a_beside A.d_beside
 B_beside:Binds K A.d_beside ["one", "other"] []
 M_beside:mg "beside" = some (.ref A.a_beside)
 F_first_end:Fun K "first_end" "first_end" w_x A.a_first_end A.d_first_end
 B_first_end:Binds K A.d_first_end ["one", "other", "end"] []
 M_first_end:mg "first_end" = some (.ref A.a_first_end)
 F_second_end:Fun K "second_end" "second_end" w_i A.a_second_end A.d_second_end
 B_second_end:Binds K A.d_second_end ["one", "other", "end"] []
 M_second_end:mg "second_end" = some (.ref A.a_second_end)
 F_is_good:Fun K "is_good" "is_good" u_p A.a_is_good A.d_is_good
 B_is_good:Binds K A.d_is_good ["net", "classes", "step"] []
 M_is_good:mg "is_good" = some (.ref A.a_is_good)
 F_is_step:Fun K "is_step" "is_step" u_r A.a_is_step A.d_is_step
 B_is_step:Binds K A.d_is_step ["net", "classes", "thing"] []
 M_is_step:mg "is_step" = some (.ref A.a_is_step)
 F_bits_of_both:Fun K "bits_of_both" "bits_of_both" y_f A.a_bits_of_both A.d_bits_of_both
 B_bits_of_both:Binds K A.d_bits_of_both ["net", "classes", "step"] []
 M_bits_of_both:mg "bits_of_both" = some (.ref A.a_bits_of_both)
 F_both_bits:Fun K "both_bits" "both_bits" w_w A.a_both_bits A.d_both_bits
 B_both_bits:Binds K A.d_both_bits ["one", "other"] []
 M_both_bits:mg "both_bits" = some (.ref A.a_both_bits)
 F_sets_of_both:Fun K "sets_of_both" "sets_of_both" y_i A.a_sets_of_both A.d_sets_of_both
 B_sets_of_both:Binds K A.d_sets_of_both ["net", "classes", "step"] []
 M_sets_of_both:mg "sets_of_both" = some (.ref A.a_sets_of_both)
 F_both_sets:Fun K "both_sets" "both_sets" u_d A.a_both_sets A.d_both_sets
 B_both_sets:Binds K A.d_both_sets ["one", "other"] []
 M_both_sets:mg "both_sets" = some (.ref A.a_both_sets)
 F_found_of:Fun K "found_of" "found_of" v_r A.a_found_of A.d_found_of
 B_found_of:Binds K A.d_found_of ["net", "classes", "given", "ends", "turned", "both"] []
 M_found_of:mg "found_of" = some (.ref A.a_found_of)
 F_below:Fun K "below" "below" r_u A.a_below A.d_below
 B_below:Binds K A.d_below ["net", "end"] []
 M_below:mg "below" = some (.ref A.a_below)
 F_look_paper:Fun K "look_paper" "look_paper" w_h A.a_look_paper A.d_look_paper
 B_look_paper:Binds K A.d_look_paper ["work", "goals", "paper"] []
 M_look_paper:mg "look_paper" = some (.ref A.a_look_paper)
 F_look_starts:Fun K "look_starts" "look_starts" x_x A.a_look_starts A.d_look_starts
 B_look_starts:Binds K A.d_look_starts ["work", "kept", "steps"] []
 M_look_starts:mg "look_starts" = some (.ref A.a_look_starts)
 F_look_nexts:Fun K "look_nexts" "look_nexts" w_g A.a_look_nexts A.d_look_nexts
 B_look_nexts:Binds K A.d_look_nexts ["work", "kept", "steps"] []
 M_look_nexts:mg "look_nexts" = some (.ref A.a_look_nexts)
 F_look_nows:Fun K "look_nows" "look_nows" w_y A.a_look_nows A.d_look_nows
 B_look_nows:Binds K A.d_look_nows ["work", "kept", "goals", "steps"] []
 M_look_nows:mg "look_nows" = some (.ref A.a_look_nows)
 F_classes_of:Fun K "classes_of" "classes_of" w_e A.a_classes_of A.d_classes_of
 B_classes_of:Binds K A.d_classes_of ["net"] []
 M_classes_of:mg "classes_of" = some (.ref A.a_classes_of)
 F_take_steps:Fun K "take_steps" "take_steps" w_j A.a_take_steps A.d_take_steps
 B_take_steps:Binds K A.d_take_steps ["net", "classes", "steps", "where"] []
 M_take_steps:mg "take_steps" = some (.ref A.a_take_steps)
 F_look_pair:Fun K "look_pair" "look_pair" w_z A.a_look_pair A.d_look_pair
 B_look_pair:Binds K A.d_look_pair ["one", "other"] []
 M_look_pair:mg "look_pair" = some (.ref A.a_look_pair)
 F_look_two:Fun K "look_two" "look_two" v_u A.a_look_two A.d_look_two
 B_look_two:Binds K A.d_look_two ["one", "other", "paper"] []
 M_look_two:mg "look_two" = some (.ref A.a_look_two)
 F_L_row:Fun K "_law_row" "_law_row" r_t A.a_L_row A.d_L_row
 B_L_row:Binds K A.d_L_row ["_law_script", "_law_at", "_law_many"] []
 M_L_row:mg "_law_row" = some (.ref A.a_L_row)
 F_L_size:Fun K "_law_size" "_law_size" t_s A.a_L_size A.d_L_size
 B_L_size:Binds K A.d_L_size ["_law_number", "_law_many"] []
 M_L_size:mg "_law_size" = some (.ref A.a_L_size)
 F_L_work:Fun K "_law_work" "_law_work" t_u A.a_L_work A.d_L_work
 B_L_work:Binds K A.d_L_work ["_law_row_here", "_law_sizes"] []
 M_L_work:mg "_law_work" = some (.ref A.a_L_work)
 F_L_end:Fun K "_law_end" "_law_end" r_s A.a_L_end A.d_L_end
 B_L_end:Binds K A.d_L_end ["_law_ends", "_law_end_here"] []
 M_L_end:mg "_law_end" = some (.ref A.a_L_end)
 F_L_swapped:Fun K "_law_swapped" "_law_swapped" w_v A.a_L_swapped A.d_L_swapped
 B_L_swapped:Binds K A.d_L_swapped ["_law_ends", "_law_work_here"] []
 M_L_swapped:mg "_law_swapped" = some (.ref A.a_L_swapped)
 F_L_joined:Fun K "_law_joined" "_law_joined" v_o A.a_L_joined A.d_L_joined
 B_L_joined:Binds K A.d_L_joined ["_law_labels", "_law_one", "_law_other"] []
 M_L_joined:mg "_law_joined" = some (.ref A.a_L_joined)
 F_L_nets:Fun K "_law_nets" "_law_nets" t_r A.a_L_nets A.d_L_nets
 B_L_nets:Binds K A.d_L_nets ["_law_work_here"] []
 M_L_nets:mg "_law_nets" = some (.ref A.a_L_nets)
 F_L_twin:Fun K "_law_twin" "_law_twin" t_t A.a_L_twin A.d_L_twin
 B_L_twin:Binds K A.d_L_twin ["_law_work_here", "_law_row_here"] []
 M_L_twin:mg "_law_twin" = some (.ref A.a_L_twin)
 F_L_joint:Fun K "_law_joint" "_law_joint" u_n A.a_L_joint A.d_L_joint
 B_L_joint:Binds K A.d_L_joint ["_law_one", "_law_other"] []
 M_L_joint:mg "_law_joint" = some (.ref A.a_L_joint)
 F_L_leaves:Fun K "_law_leaves" "_law_leaves" v_p A.a_L_leaves A.d_L_leaves
 B_L_leaves:Binds K A.d_L_leaves ["_law_labels", "_law_pair"] []
 M_L_leaves:mg "_law_leaves" = some (.ref A.a_L_leaves)
 F_L_walked:Fun K "_law_walked" "_law_walked" v_q A.a_L_walked A.d_L_walked
 B_L_walked:Binds K A.d_L_walked ["_law_one", "_law_rows", "_law_twin_here", "_law_net", "_law_goes", "_law_pairs"] []
 M_L_walked:mg "_law_walked" = some (.ref A.a_L_walked)
 F_L_paper:Fun K "_law_paper" "_law_paper" u_o A.a_L_paper A.d_L_paper
 B_L_paper:Binds K A.d_L_paper ["_law_one", "_law_other", "_law_twin_here"] []
 M_L_paper:mg "_law_paper" = some (.ref A.a_L_paper)
 F_law:Fun K "law" "law" f_a A.a_law A.d_law
 B_law:Binds K A.d_law ["_law_script"] []
 M_law:mg "law" = some (.ref A.a_law)
 cl_Classes:Cls K A.c_Classes
 M_Classes:mg "Classes" = some (.ref A.c_Classes)
 n_Classes_lesser:NoAttr K A.c_Classes "lesser"
 L_bits_of_both:A.d_bits_of_both.code = .ref A.tc_bits_of_both
 L_sets_of_both:A.d_sets_of_both.code = .ref A.tc_sets_of_both
section
variable {P:Program} {w:World} {K:PySem.W.Frag} {mg:Str->Option Value} {base:Heap} {A:Ad}
seal L2.PE L2.PA L2.PT L2.PS L2.PSs
theorem r_l(T:Tx w K mg A):FnOk P w K mg base CX0 1 A.a_Classes_init A.d_Classes_init ["self", "knots"] (n_u A.c_Classes):=by
 refine T.F_Classes_init.ok r_v (fun vs H Q E h=>?_) (fun cdv A' outer s H vs Q E hr h=>?_)
 ·obtain ⟨o,dx,n,rfl,ho,hn,q⟩:=h
  rfl
 obtain ⟨o,dx,n,rfl,ho,hn,q⟩:=h
 refine ⟨_,(z_h (ps_fld (pv 0) (y_s [] (fun _ _ h=>h) rfl (y_j rfl T.range (z_a (pv 1) z_b)) (fun _ _ _ _=>y_a) (fun _ _ _ _=>(z_k y_h z_c (pv 0))) rfl (show ∀ j∈([]:List Nat),j<2 by decide) (show (["knot"]:List Str).Nodup by decide +kernel)) rfl)),?_⟩
 refine ⟨_,rfl,_,rfl,by lia,by lia,y_r (lo:=0) (fun i ys H'=>H=H'/\ys=z_g ((List.range i).map fun k=>2*k)) ⟨rfl,rfl⟩ ?_ ?_ ?_⟩
 ·rintro i ys H' hi ⟨rfl,rfl⟩
  rw [z_o,List.length_map,List.length_range]
  exact y_b (by lia)
 ·rintro i ys H' hi ⟨rfl,rfl⟩
  unfold tYes
  refine iteT ⟨_,rfl,_,_,rfl,rfl,.inl ⟨by decide,by decide⟩,?_⟩
  refine ⟨rfl,?_⟩
  rw [List.range_succ,List.map_append]
  unfold z_g
  rw [List.map_append]
  congr 1
  show [V.int (2*(0+(i:Int)))]=[V.int ((2*i:Nat):Int)]
  rw [Int.zero_add,Int.natCast_mul]
  rfl
 ·rintro ys H' ⟨rfl,rfl⟩ pl hpl
  have nol:o≠pl:=z_i ho hpl
  refine ⟨_,rfl,o,A.c_Classes,dx,[],rfl,(by rw [z_r nol];exact ho),T.cl_Classes,T.n_Classes_lesser,by decide,?_⟩
  refine q pl _ hpl (fun b o' nb e=>?_) ⟨⟨dx,z_d⟩,_,(by rw [z_r (Ne.symm nol),z_d]),?_,hn⟩
  ·rw [z_r nb,z_r (z_i e hpl)]
   exact e
  ·have:((n:Int)-0).toNat=n:=by lia
   simp only [Int.toNat_natCast,Int.sub_zero]
   exact Uf.init n
theorem u_g(T:Tx w K mg A):FnOk P w K mg base CX0 1 A.a_Classes_least A.d_Classes_least ["self", "end"] (w_s A.c_Classes):=by
 refine T.F_Classes_least.ok sc_Classes_least (fun vs H Q E h=>?_) (fun cdv A' outer s H vs Q E hr h=>?_)
 ·obtain ⟨o,l,n,R,e,rfl,⟨⟨dx,ho⟩,L,hl,u,hn⟩,he,q⟩:=h
  rfl
 obtain ⟨o,l,n,R,e,rfl,⟨⟨dx,ho⟩,L,hl,u,hn⟩,he,q⟩:=h
 refine ⟨_,(z_e (z_v (i:=2) sc_Classes_least.nd rfl (Or.inl rfl) (pe_fld (pv 0) rfl))
  (z_e (z_v (i:=3) sc_Classes_least.nd rfl (Or.inl rfl) (x_i z_b))
  (z_e (k_k PassesOwn.never (z_z g_j (z_k y_n (z_l ix_list0 (pv 2) (z_k y_n (pv 1) z_c) (fun _ _=>rfl)) z_c) (z_k y_n (pv 1) z_c) (nomark _))
    (z_e (y_l (w_u PySem.F.plainAttrs_list PySem.F.slot_list_append PySem.F.type_list_append x_a (pv 3) (z_a (pv 1) z_b)))
  (z_h (z_v (i:=1) sc_Classes_least.nd rfl (Or.inl rfl) (z_k v_e (z_l ix_list0 (pv 2) (z_k y_n (pv 1) z_c) (fun _ _=>rfl)) (z_k x_m (pv 1) z_c))))))
  (z_e (x_q PassesOwn.never rfl (y_d (pv 3)) (z_t (i:=4) sc_Classes_least.nd rfl (Or.inl rfl))
    (z_h (q_m (z_k v_e (pv 1) (z_k x_m (pv 4) z_c)) (pg_sub (pv 2) (z_k y_n (pv 4) z_c) k_q))))
  (z_h (z_y (pv 1))))))),?_⟩
 have nol:o≠l:=ClsAt.ne (C:=A.c_Classes) ⟨⟨dx,ho⟩,L,hl,u,hn⟩
 refine ⟨_,rfl,o,A.c_Classes,dx,_,_,rfl,ho,T.cl_Classes,T.n_Classes_lesser,o_p,?_⟩
 refine ⟨zl0,fun pw hpw=>?_⟩
 have nlw:l≠pw:=z_i hl hpw
 have now:o≠pw:=z_i ho hpw
 let WI:Nat->St->Hp->Prop:=fun m σ H1=>∃ (c:Nat) (ws:List Nat),σ=[some (.ref o),some (.int (c:Int)),some (.ref l),some (.ref pw),none]/\m=c/\Same H H1/\H1 pw=some (.lst (z_g ws))/\c/2<n/\R c=R e/\ws.length+c/2<=e/2/\∀ w∈ws,w/2<n/\R w=R e/\R w/2<w/2
 refine ⟨WI,⟨e,e,[],rfl,rfl,z_f hpw _,z_d,he,rfl,by simp,fun _ h=>nomatch h⟩,?_⟩
 rintro m σ H1 ⟨c,ws,rfl,rfl,s1,hw1,hc,hR,hlen,hall⟩
 have hl1:=s1 _ _ hl
 have hat:=at_nats (L:=L) (c:=m) (by rw [u.len];exact hc)
 refine ⟨_,rfl,_,rfl,_,_,rfl,rfl,⟨by decide,by decide⟩,l,_,_,_,rfl,rfl,SqL.of hl1,hat,_,_,rfl,rfl,⟨by decide,by decide⟩,_,rfl,_,_,rfl,rfl,⟨by decide,by decide⟩,rfl,_,rfl,?_⟩
 by_cases hroot:L.getD (m/2) 0/2=m/2
 ·refine x_d (by rw [decide_eq_true (congrArg V.int (show ((L.getD (m/2) 0:Nat):Int)/2=(m:Int)/2 by lia))];rfl) ?_
  have hRm:=u.here hc hroot
  rw [hR] at hRm
  refine ⟨_,rfl,pw,rfl,⟨_,SqL.of hw1⟩,t_k (xs:=z_g ws) (fun i σ H'=>∃ (z:Option V) (L':List Nat),σ=[some (.ref o),some (.int (m:Int)),some (.ref l),some (.ref pw),z]/\Ch l H1 H'/\H' l=some (.lst (z_g L'))/\Uf n L' R) ⟨_,L,rfl,Ch.refl,hl1,u⟩ ?_ ?_ ?_⟩
  ·rintro i σ H' _ ⟨z,L',rfl,ch,_,_⟩
   exact SqL.of (ch _ _ (Ne.symm nlw) hw1)
  ·rintro i v σ H' hv ⟨z,L',rfl,ch,hl',u'⟩
   have hv':∃ w∈ws,v = .int ((w:Nat):Int):=by
    have:=List.mem_of_getElem? hv
    unfold z_g at this
    obtain ⟨w,hw,e⟩:=List.mem_map.mp this
    exact ⟨w,hw,e.symm⟩
   obtain ⟨w,hw,rfl⟩:=hv'
   obtain ⟨a1,a2,a3⟩:=hall w hw
   have hx:Builtin.bitXor (m:Int) ((w:Int)%2)=((m^^^(w%2):Nat):Int):=by
    rw [show (w:Int)%2=((w%2:Nat):Int) by lia]
    exact v_c m (w%2)
   refine ⟨_,rfl,_,rfl,_,_,rfl,rfl,(by show (0:Int)<2;decide),_,_,rfl,rfl,_,rfl,_,rfl,_,_,rfl,rfl,⟨by decide,by decide⟩,l,_,_,w/2,rfl,rfl,hl',?_,?_⟩
   ·exact k_c (by rw [u'.len];exact a1)
   ·dsimp only
    rw [hx,o_t]
    refine ⟨_,_,rfl,ch.trans (Ch.put _),z_d,?_⟩
    have:=u'.press a1 a3
    rw [a2,hRm] at this
    exact this
  ·rintro σ H' ⟨z,L',rfl,ch,hl',u'⟩
   refine ⟨_,rfl,?_⟩
   rw [<-hRm]
   exact q H' ((s1.ch).trans ch) ⟨⟨dx,ch _ _ nol (s1 _ _ ho)⟩,L',hl',u',hn⟩
 ·refine v_i (by rw [decide_eq_false (by intro h;injection h with h;lia)];rfl) ?_
  obtain ⟨b1,b2,b3⟩:=u.lt hc hroot
  have hx:Builtin.bitXor ((L.getD (m/2) 0:Nat):Int) ((m:Int)%2)=((L.getD (m/2) 0^^^(m%2):Nat):Int):=by
   rw [show (m:Int)%2=((m%2:Nat):Int) by lia]
   exact v_c _ _
  have hd:=f_o (L.getD (m/2) 0) (m%2) (by lia)
  refine ⟨fun σ' H'=>∃ m',m'<m/\WI m' σ' H',fun _ _ h=>h,?_⟩
  refine ⟨_,rfl,.inl ⟨rfl,_,SqL.of hw1⟩,_,rfl,pw,_,_,rfl,rfl,hw1,y_b (by rw [z_o];lia),?_⟩
  refine ⟨_,rfl,_,rfl,_,_,rfl,rfl,⟨by decide,by decide⟩,l,_,_,_,rfl,rfl,SqL.of (by rw [z_r nlw];exact hl1),hat,_,rfl,_,_,rfl,rfl,(by show (0:Int)<2;decide),_,_,rfl,rfl,?_⟩
  dsimp only
  rw [hx]
  refine ⟨_,?_,_,ws++[m],rfl,rfl,x_c s1 hpw _,?_,?_,?_,?_,?_⟩
  ·lia
  ·rw [z_d];unfold z_g;rw [List.map_append];rfl
  ·lia
  ·rw [<-b3];exact hR
  ·rw [List.length_append,List.length_singleton];lia
  ·intro w hw
   rcases List.mem_append.mp hw with h | h
   ·exact hall w h
   ·rw [List.mem_singleton.mp h]
    exact ⟨hc,hR,b1⟩
theorem s_k(T:Tx w K mg A)(G_Classes_least:FnOk P w K mg base CX0 1 A.a_Classes_least A.d_Classes_least ["self", "end"] (w_s A.c_Classes)):FnOk P w K mg base CX0 2 A.a_Classes_alike A.d_Classes_alike ["self", "one", "other"] (t_b A.c_Classes):=by
 refine T.F_Classes_alike.ok s_n (fun vs H Q E h=>?_) (fun cdv A' outer s H vs Q E hr h=>?_)
 ·obtain ⟨o,l,n,R,a,b,rfl,hC,ha,hb,q⟩:=h
  rfl
 obtain ⟨o,l,n,R,a,b,rfl,hC,ha,hb,q⟩:=h
 refine ⟨_,(z_h (z_y (u_k s_l (x_o (pv 0) T.cl_Classes T.me_Classes_least G_Classes_least (hr.mono (by first | decide | lia)) T.B_Classes_least .nil pass0 (z_a (pv 1) z_b)) (x_o (pv 0) T.cl_Classes T.me_Classes_least G_Classes_least (hr.mono (by first | decide | lia)) T.B_Classes_least .nil pass0 (z_a (pv 2) z_b)) (nomark _)))),?_⟩
 obtain ⟨dx,ho⟩:=hC.1
 refine ⟨_,rfl,o,dx,_,rfl,ho,t_d (by decide),_,rfl,o,l,n,R,a,rfl,hC,ha,fun H1 ch1 hC1=>?_⟩
 obtain ⟨dx1,ho1⟩:=hC1.1
 refine ⟨_,rfl,o,dx1,_,rfl,ho1,t_d (by decide),_,rfl,o,l,n,R,b,rfl,hC1,hb,fun H2 ch2 hC2=>?_⟩
 refine ⟨rfl,?_⟩
 have e:decide (V.int ((R a:Nat):Int)=V.int ((R b:Nat):Int))=decide (R a=R b):=by
  by_cases h:R a=R b
  ·rw [h,decide_eq_true rfl,decide_eq_true rfl]
  ·rw [decide_eq_false h,decide_eq_false (by intro e;injection e with e;lia)]
 rw [e]
 exact q H2 (ch1.trans ch2) hC2
theorem r_m(T:Tx w K mg A)(G_Classes_least:FnOk P w K mg base CX0 1 A.a_Classes_least A.d_Classes_least ["self", "end"] (w_s A.c_Classes)):FnOk P w K mg base CX0 2 A.a_Classes_join A.d_Classes_join ["self", "one", "other"] (t_x A.c_Classes):=by
 refine T.F_Classes_join.ok sc_Classes_join (fun vs H Q E h=>?_) (fun cdv A' outer s H vs Q E hr h=>?_)
 ·obtain ⟨o,l,n,R,a,b,rfl,hC,ha,hb,q⟩:=h
  rfl
 obtain ⟨o,l,n,R,a,b,rfl,hC,ha,hb,q⟩:=h
 refine ⟨_,(z_e (z_v (i:=3) sc_Classes_join.nd rfl (Or.inl rfl) (z_m (o_e rfl) rfl T.min PyProof.Rows.boot_min (z_a (x_o (pv 0) T.cl_Classes T.me_Classes_least G_Classes_least (hr.mono (by first | decide | lia)) T.B_Classes_least .nil pass0 (z_a (pv 1) z_b)) (z_a (x_o (pv 0) T.cl_Classes T.me_Classes_least G_Classes_least (hr.mono (by first | decide | lia)) T.B_Classes_least .nil pass0 (z_a (pv 2) z_b)) z_b))))
  (z_e (z_v (i:=4) sc_Classes_join.nd rfl (Or.inl rfl) (z_m (o_d rfl) rfl T.max PyProof.Rows.boot_max (z_a (x_o (pv 0) T.cl_Classes T.me_Classes_least G_Classes_least (hr.mono (by first | decide | lia)) T.B_Classes_least .nil pass0 (z_a (pv 1) z_b)) (z_a (x_o (pv 0) T.cl_Classes T.me_Classes_least G_Classes_least (hr.mono (by first | decide | lia)) T.B_Classes_least .nil pass0 (z_a (pv 2) z_b)) z_b))))
  (z_e (x_j (z_z s_l (pv 3) (pv 4) (nomark _)) (z_h (z_y s_m)) y_c)
  (z_e (x_j (z_z s_l (z_k v_e (pv 3) z_c) (pv 4) (nomark _)) (z_h (z_y s_m)) y_c)
  (z_e (q_m (z_k v_e (pv 3) (z_k x_m (pv 4) z_c)) (pg_sub (pe_fld (pv 0) rfl) (z_k y_n (pv 4) z_c) k_q))
  (z_h (z_y s_m))))))),?_⟩
 obtain ⟨dx1,ho1⟩:=hC.1
 refine ⟨_,rfl,o,dx1,_,rfl,ho1,t_d (by decide),_,rfl,o,l,n,R,a,rfl,hC,ha,fun H1 ch1 hC1=>?_⟩
 obtain ⟨dx2,ho2⟩:=hC1.1
 refine ⟨_,rfl,o,dx2,_,rfl,ho2,t_d (by decide),_,rfl,o,l,n,R,b,rfl,hC1,hb,fun H2 ch2 hC2=>?_⟩
 refine ⟨_,_,rfl,?_⟩
 obtain ⟨dx3,ho3⟩:=hC2.1
 refine ⟨_,rfl,o,dx3,_,rfl,ho3,t_d (by decide),_,rfl,o,l,n,R,a,rfl,hC2,ha,fun H3 ch3 hC3=>?_⟩
 obtain ⟨dx4,ho4⟩:=hC3.1
 refine ⟨_,rfl,o,dx4,_,rfl,ho4,t_d (by decide),_,rfl,o,l,n,R,b,rfl,hC3,hb,fun H4 ch4 hC4=>?_⟩
 refine ⟨_,_,rfl,?_⟩
 have ch4:=((ch1.trans ch2).trans ch3).trans ch4
 have elo:(if ((R b:Nat):Int)<((R a:Nat):Int) then ((R b:Nat):Int) else ((R a:Nat):Int))=((min (R a) (R b):Nat):Int):=by
  split<;>lia
 have ehi:(if ((R b:Nat):Int) > ((R a:Nat):Int) then ((R b:Nat):Int) else ((R a:Nat):Int))=((max (R a) (R b):Nat):Int):=by
  split<;>lia
 obtain ⟨⟨dx,ho⟩,L,hl,u,hn⟩:=id hC4
 have lea:=u.le ha
 have leb:=u.le hb
 have rra:=u.rr ha
 have rrb:=u.rr hb
 have c1:=x_v (R a)
 have c2:=x_v (R b)
 have c3:=s_z (R a)
 have c4:=s_z (R b)
 generalize hlo:min (R a) (R b)=lo at elo q
 generalize hhi:max (R a) (R b)=hi at ehi q
 rw [elo,ehi]
 have c5:=x_v lo
 have c6:=s_z lo
 have xl:Builtin.bitXor ((lo:Nat):Int) 1=((lo^^^1:Nat):Int):=v_c lo 1
 refine ⟨_,rfl,_,rfl,rfl,_,rfl,?_⟩
 rcases q with ⟨h1,q⟩ | ⟨h1,q⟩ | ⟨h1,h2,q⟩
 ·refine v_i (decide_eq_true (by congr 1;lia)) ?_
  exact q H4 ch4 hC4
 ·refine x_d (decide_eq_false (by intro h;injection h with h;lia)) ?_
  refine ⟨_,rfl,_,_,rfl,rfl,_,rfl,rfl,_,rfl,?_⟩
  refine v_i (decide_eq_true (by dsimp only;rw [xl];congr 1;lia)) ?_
  exact q H4 ch4 hC4
 ·refine x_d (decide_eq_false (by intro h;injection h with h;lia)) ?_
  refine ⟨_,rfl,_,_,rfl,rfl,_,rfl,rfl,_,rfl,?_⟩
  refine x_d (decide_eq_false (by dsimp only;rw [xl];intro h;injection h with h;lia)) ?_
  have hx:Builtin.bitXor (lo:Int) ((hi:Int)%2)=((lo^^^(hi%2):Nat):Int):=by
   rw [show (hi:Int)%2=((hi%2:Nat):Int) by lia]
   exact v_c lo (hi%2)
  have hlt:lo/2<hi/2:=by lia
  have hhn:hi/2<n:=by lia
  have hRl:R lo=lo:=by
   have:lo=R a\/lo=R b:=by lia
   rcases this with h | h<;>rw [h]<;>assumption
  have hRh:R hi=hi:=by
   have:hi=R a\/hi=R b:=by lia
   rcases this with h | h<;>rw [h]<;>assumption
  refine ⟨_,rfl,_,rfl,_,_,rfl,rfl,(by show (0:Int)<2;decide),_,_,rfl,rfl,_,rfl,o,A.c_Classes,dx,_,_,rfl,ho,T.cl_Classes,T.n_Classes_lesser,o_p,_,rfl,_,_,rfl,rfl,⟨by decide,by decide⟩,l,_,_,hi/2,rfl,rfl,hl,?_,?_⟩
  ·exact k_c (by rw [u.len];exact hhn)
  ·dsimp only
   rw [hx,o_t]
   exact q _ (ch4.trans (Ch.put _)) ⟨⟨dx,by rw [z_r hC4.ne];exact ho⟩,_,z_d,u.join hRl hRh hlt hhn,hn⟩
theorem i_g(T:Tx w K mg A):FnOk P w K mg base CX0 1 A.a_now_net A.d_now_net ["work"] q_o:=by
 refine T.F_now_net.ok i_l (fun vs H Q E h=>?_) (fun cdv A' outer s H vs Q E hr h=>?_)
 ·obtain ⟨w,b,g,o,W,rfl,hW,ok,q⟩:=h
  rfl
 obtain ⟨w,b,g,o,W,rfl,hW,ok,q⟩:=h
 refine ⟨_,(z_h (z_y (y_e (z_a (z_k z_x (z_l ix_tup0 (pv 0) z_c (fun _ _=>rfl)) (z_m z_s rfl T.len PySem.boot_len (z_a (z_l ix_tup0 (pv 0) z_c (fun _ _=>rfl)) z_b))) (z_a (x_b v_y rfl T.list PyProof.Rows.boot_list (z_a (z_l ix_tup0 (pv 0) z_c (fun _ _=>rfl)) z_b)) z_b))))),?_⟩
 obtain ⟨bs,hB⟩:=hW.b
 obtain ⟨gs,hG⟩:=hW.g
 refine ⟨_,rfl,w,_,_,_,rfl,rfl,SqT.of hW.w,rfl,_,rfl,w,_,_,_,rfl,rfl,SqT.of hW.w,rfl,_,_,rfl,.inl ⟨_,SqL.of hB.1,rfl⟩,_,_,rfl,rfl,_,rfl,w,_,_,_,rfl,rfl,SqT.of hW.w,rfl,g,_,rfl,.inl (SqL.of hG.1),fun g' hg'=>?_⟩
 have s1:=z_f hg' (.lst (gs.map V.ref))
 refine ⟨zl2,fun p hp=>?_⟩
 have s2:=z_f hp (.tup [.int ((W.ins:Int)+((bs.map V.ref).length:Nat)),.ref g'])
 have hne:p≠g':=fun e=>by rw [e,z_d] at hp;cases hp
 refine q p g' gs _ (s1.free hp) hg' hne (s1.trans s2) ⟨?_,⟨s2 _ _ z_d,(hG.same (s1.trans s2)).2⟩⟩
 rw [z_d,List.length_map,hB.length]
 push_cast
 rfl
theorem n_d(T:Tx w K mg A):FnOk P w K mg base CX0 1 A.a_start_end A.d_start_end ["work", "end"] u_w:=by
 refine T.F_start_end.ok sc_start_end (fun vs H Q E h=>?_) (fun cdv A' outer s H vs Q E hr h=>?_)
 ·obtain ⟨w,b,g,o,W,e,rfl,hW,ok,e0,q⟩:=h
  rfl
 obtain ⟨w,b,g,o,W,e,rfl,hW,ok,e0,q⟩:=h
 refine ⟨_,(z_e (z_v (i:=2) sc_start_end.nd rfl (Or.inl rfl) (z_k v_n (z_k v_n (z_k y_n (pv 1) z_c) (z_l ix_tup0 (pv 0) z_c (fun _ _=>rfl))) z_c))
  (z_e (x_j (z_z l_e (pv 2) z_c (nomark _)) (z_h (z_y (pv 1))) y_c)
  (z_e (x_j (z_z l_e (pv 2) (z_m z_s rfl T.len PySem.boot_len (z_a (z_l ix_tup0 (pv 0) z_c (fun _ _=>rfl)) z_b)) (nomark _)) (z_h (z_y (z_k v_e (z_l ix_tup0 (z_l ix_list0 (z_l ix_tup0 (pv 0) z_c (fun _ _=>rfl)) (pv 2) (fun _ _=>rfl)) z_c (fun _ _=>rfl)) (z_k x_m (pv 1) z_c)))) y_c)
  (z_h (z_y (z_k v_n (pv 1) (z_k y_h z_c (z_m z_s rfl T.len PySem.boot_len (z_a (z_l ix_tup0 (pv 0) z_c (fun _ _=>rfl)) z_b))))))))),?_⟩
 obtain ⟨bs,hB⟩:=hW.b
 have hbl:(bs.map V.ref).length=W.boxes.length:=by rw [List.length_map,hB.length]
 refine ⟨_,rfl,_,_,rfl,rfl,⟨by decide,by decide⟩,_,rfl,w,_,_,_,rfl,rfl,SqT.of hW.w,rfl,_,_,rfl,rfl,_,_,rfl,rfl,?_⟩
 refine ⟨_,rfl,_,_,rfl,rfl,_,rfl,?_⟩
 unfold seF at q
 refine ite2 (fun c=>?_) (fun c=>?_)
 ·have c:e/2-W.ins-1<0:=of_decide_eq_true c
  rw [if_pos c] at q
  exact ⟨_,rfl,q⟩
 ·have c:¬e/2-W.ins-1<0:=fun h=>c (decide_eq_true h)
  rw [if_neg c] at q
  refine ⟨_,rfl,_,rfl,w,_,_,_,rfl,rfl,SqT.of hW.w,rfl,_,_,rfl,.inl ⟨_,SqL.of hB.1,rfl⟩,_,_,rfl,rfl,_,rfl,?_⟩
  refine ite2 (fun c2=>?_) (fun c2=>?_)
  ·have c2:e/2-W.ins-1<((bs.map V.ref).length:Nat):=of_decide_eq_true c2
   rw [hbl] at c2
   rw [if_pos c2] at q
   obtain ⟨k,hk⟩:=Int.eq_ofNat_of_zero_le (show 0<=e/2-W.ins-1 by lia)
   have hk2:k<W.boxes.length:=by lia
   obtain ⟨r,h1,h2⟩:=hB.get hk2
   refine ⟨_,rfl,w,_,_,_,rfl,rfl,SqT.of hW.w,rfl,_,rfl,b,_,_,_,rfl,rfl,SqL.of hB.1,(by rw [hk];exact v_x h1),r,_,_,_,rfl,rfl,SqT.of h2,rfl,_,rfl,_,_,rfl,rfl,(by show (0:Int)<2;decide),_,_,rfl,rfl,?_⟩
   dsimp only
   rw [xor_bit (ok.box _ (List.getElem_mem hk2)).1]
   rw [hk,Int.toNat_natCast,List.getD_eq_getElem?_getD,List.getElem?_eq_getElem hk2] at q
   exact q
  ·have c2:¬e/2-W.ins-1<((bs.map V.ref).length:Nat):=fun h=>c2 (decide_eq_true h)
   rw [hbl] at c2
   rw [if_neg c2] at q
   refine ⟨_,rfl,_,rfl,w,_,_,_,rfl,rfl,SqT.of hW.w,rfl,_,_,rfl,.inl ⟨_,SqL.of hB.1,rfl⟩,_,_,rfl,rfl,.inl ⟨by decide,by decide⟩,_,_,rfl,rfl,?_⟩
   rw [hbl]
   exact q
theorem n_e(T:Tx w K mg A)(G_start_end:FnOk P w K mg base CX0 1 A.a_start_end A.d_start_end ["work", "end"] u_w):FnOk P w K mg base CX0 2 A.a_start_net A.d_start_net ["work"] s_i:=by
 refine T.F_start_net.ok n_r (fun vs H Q E h=>?_) (fun cdv A' outer s H vs Q E hr h=>?_)
 ·obtain ⟨w,b,g,o,W,rfl,hW,ok,q⟩:=h
  rfl
 obtain ⟨w,b,g,o,W,rfl,hW,ok,q⟩:=h
 refine ⟨_,(z_h (z_y (y_e (z_a (z_l ix_tup0 (pv 0) z_c (fun _ _=>rfl)) (z_a (t_q ["one", "other"] [0] (fun _ _ h=>h) rfl (y_d (z_l ix_tup0 (pv 0) z_c (fun _ _=>rfl))) (fun _ _ _ _=>(y_x rfl (z_u (z_t (i:=0) (show (["one", "other", "work"]:List Str).Nodup by decide +kernel) rfl (Or.inl rfl)) (z_u (z_t (i:=1) (show (["one", "other", "work"]:List Str).Nodup by decide +kernel) rfl (Or.inl rfl)) y_o)))) w_q (fun _ _ _ _=>y_a) (fun _ _ _ _=>(y_e (z_a (z_j G_start_end (hr.mono (by first | decide | lia)) rfl T.M_start_end T.F_start_end.kp T.B_start_end .nil pass0 (z_a (pv 2) (z_a (pv 0) z_b))) (z_a (z_j G_start_end (hr.mono (by first | decide | lia)) rfl T.M_start_end T.F_start_end.kp T.B_start_end .nil pass0 (z_a (pv 2) (z_a (pv 1) z_b))) z_b)))) rfl (show ∀ j∈([0]:List Nat),j<1 by decide)) z_b))))),?_⟩
 obtain ⟨gs,hG⟩:=hW.g
 refine ⟨_,rfl,w,_,_,_,rfl,rfl,SqT.of hW.w,rfl,_,rfl,w,_,_,_,rfl,rfl,SqT.of hW.w,rfl,g,rfl,⟨_,SqL.of hG.1⟩,y_p (fun p=>(seF W p.1,seF W p.2)) hG (by have:=ok.gates;lia) (fun p hp H1 s1 N hN=>?_) fun bs H1 s1 hb g' hg'=>?_⟩
 ·obtain ⟨k,hk⟩:=List.mem_iff_getElem?.mp hp
  obtain ⟨⟨a0,_⟩,b0,_⟩:=ok.gate k p hk
  exact ⟨_,rfl,_,rfl,w,b,g,o,W,_,rfl,hW.same s1,ok,a0,_,rfl,_,rfl,w,b,g,o,W,_,rfl,hW.same s1,ok,b0,zl2,hN⟩
 have s2:=z_f hg' (.lst (bs.map V.ref))
 refine ⟨zl2,fun p hp=>?_⟩
 have s3:=z_f hp (.tup [.int W.ins,.ref g'])
 have hne:p≠g':=fun e=>by rw [e,z_d] at hp;cases hp
 exact q p g' bs _ ((s1.trans s2).free hp) (s1.free hg') hne ((s1.trans s2).trans s3) ⟨z_d,⟨s3 _ _ z_d,z_w (fun r x h=>(s2.trans s3) _ _ h) hb⟩⟩
theorem i_f(T:Tx w K mg A):FnOk P w K mg base CX0 1 A.a_now_end A.d_now_end ["work", "end"] t_c:=by
 refine T.F_now_end.ok i_k (fun vs H Q E h=>?_) (fun cdv A' outer s H vs Q E hr h=>?_)
 ·obtain ⟨w,b,g,o,W,e,rfl,hW,ok,e0,q⟩:=h
  rfl
 obtain ⟨w,b,g,o,W,e,rfl,hW,ok,e0,q⟩:=h
 refine ⟨_,(z_e (x_j (z_z i_h (z_k y_n (pv 1) z_c) (z_k z_x (z_l ix_tup0 (pv 0) z_c (fun _ _=>rfl)) (z_m z_s rfl T.len PySem.boot_len (z_a (z_l ix_tup0 (pv 0) z_c (fun _ _=>rfl)) z_b))) (nomark _)) (z_h (z_y (pv 1))) y_c)
  (z_h (z_y (z_k z_x (pv 1) (z_k y_h z_c (z_l ix_tup0 (pv 0) z_c (fun _ _=>rfl))))))),?_⟩
 obtain ⟨bs,hB⟩:=hW.b
 have hbl:(bs.map V.ref).length=W.boxes.length:=by rw [List.length_map,hB.length]
 refine ⟨_,rfl,_,_,rfl,rfl,⟨by decide,by decide⟩,_,rfl,w,_,_,_,rfl,rfl,SqT.of hW.w,rfl,_,rfl,w,_,_,_,rfl,rfl,SqT.of hW.w,rfl,_,_,rfl,.inl ⟨_,SqL.of hB.1,rfl⟩,_,_,rfl,rfl,_,_,rfl,rfl,_,rfl,?_⟩
 unfold neF at q
 refine ite2 (fun c=>?_) (fun c=>?_)
 ·have c:e/2<=(W.ins:Int)+((bs.map V.ref).length:Nat):=of_decide_eq_true c
  rw [hbl] at c
  rw [if_pos c] at q
  exact ⟨_,rfl,q⟩
 ·have c:¬e/2<=(W.ins:Int)+((bs.map V.ref).length:Nat):=fun h=>c (decide_eq_true h)
  rw [hbl] at c
  rw [if_neg c] at q
  exact ⟨_,rfl,_,rfl,w,_,_,_,rfl,rfl,SqT.of hW.w,rfl,_,_,rfl,rfl,.inl ⟨by decide,by decide⟩,_,_,rfl,rfl,q⟩
theorem l_d(T:Tx w K mg A)(G_now_end:FnOk P w K mg base CX0 1 A.a_now_end A.d_now_end ["work", "end"] t_c):FnOk P w K mg base CX0 2 A.a_then_end A.d_then_end ["work", "end"] t_j:=by
 refine T.F_then_end.ok sc_then_end (fun vs H Q E h=>?_) (fun cdv A' outer s H vs Q E hr h=>?_)
 ·obtain ⟨w,b,g,o,W,e,rfl,hW,ok,e0,q⟩:=h
  rfl
 obtain ⟨w,b,g,o,W,e,rfl,hW,ok,e0,q⟩:=h
 refine ⟨_,(z_e (x_j (z_z l_e (pv 1) z_c (nomark _)) (z_h (z_y (pv 1))) y_c)
  (z_e (z_v (i:=2) sc_then_end.nd rfl (Or.inl rfl) (z_k v_n (z_k v_n (z_k y_n (pv 1) z_c) (z_l ix_tup0 (pv 0) z_c (fun _ _=>rfl))) z_c))
  (z_e (x_j (z_z l_e (pv 2) z_c (nomark _)) (z_h (z_y (z_k z_x (pv 1) (z_k y_h z_c (z_k z_x (z_l ix_tup0 (pv 0) z_c (fun _ _=>rfl)) (z_m z_s rfl T.len PySem.boot_len (z_a (z_l ix_tup0 (pv 0) z_c (fun _ _=>rfl)) z_b))))))) y_c)
  (z_e (x_j (z_z l_e (pv 2) (z_m z_s rfl T.len PySem.boot_len (z_a (z_l ix_tup0 (pv 0) z_c (fun _ _=>rfl)) z_b)) (nomark _)) (z_h (z_y (z_k v_e (z_j G_now_end (hr.mono (by first | decide | lia)) rfl T.M_now_end T.F_now_end.kp T.B_now_end .nil pass0 (z_a (pv 0) (z_a (z_l ix_tup0 (z_l ix_list0 (z_l ix_tup0 (pv 0) z_c (fun _ _=>rfl)) (pv 2) (fun _ _=>rfl)) z_c (fun _ _=>rfl)) z_b))) (z_k x_m (pv 1) z_c)))) y_c)
  (z_h (z_y (z_k z_x (pv 1) (z_k y_h z_c (z_k z_x (z_l ix_tup0 (pv 0) z_c (fun _ _=>rfl)) (z_m z_s rfl T.len PySem.boot_len (z_a (z_l ix_tup0 (pv 0) z_c (fun _ _=>rfl)) z_b))))))))))),?_⟩
 obtain ⟨bs,hB⟩:=hW.b
 obtain ⟨gs,hG⟩:=hW.g
 have hbl:(bs.map V.ref).length=W.boxes.length:=by rw [List.length_map,hB.length]
 have hgl:(gs.map V.ref).length=W.gates.length:=by rw [List.length_map,hG.length]
 refine ⟨_,rfl,_,_,rfl,rfl,_,rfl,?_⟩
 unfold teF at q
 refine ite2 (fun c=>?_) (fun c=>?_)
 ·have c:e<2:=of_decide_eq_true c
  rw [if_pos c] at q
  exact ⟨_,rfl,q⟩
 have c:¬e<2:=fun h=>c (decide_eq_true h)
 rw [if_neg c] at q
 refine ⟨_,rfl,_,_,rfl,rfl,⟨by decide,by decide⟩,_,rfl,w,_,_,_,rfl,rfl,SqT.of hW.w,rfl,_,_,rfl,rfl,_,_,rfl,rfl,?_⟩
 refine ⟨_,rfl,_,_,rfl,rfl,_,rfl,?_⟩
 refine ite2 (fun c2=>?_) (fun c2=>?_)
 ·have c2:e/2-W.ins-1<0:=of_decide_eq_true c2
  rw [if_pos c2] at q
  refine ⟨_,rfl,_,rfl,w,_,_,_,rfl,rfl,SqT.of hW.w,rfl,_,rfl,w,_,_,_,rfl,rfl,SqT.of hW.w,rfl,_,_,rfl,.inl ⟨_,SqL.of hB.1,rfl⟩,_,_,rfl,rfl,_,_,rfl,rfl,.inl ⟨by decide,by decide⟩,_,_,rfl,rfl,?_⟩
  rw [hbl]
  exact q
 have c2:¬e/2-W.ins-1<0:=fun h=>c2 (decide_eq_true h)
 rw [if_neg c2] at q
 refine ⟨_,rfl,_,rfl,w,_,_,_,rfl,rfl,SqT.of hW.w,rfl,_,_,rfl,.inl ⟨_,SqL.of hB.1,rfl⟩,_,_,rfl,rfl,_,rfl,?_⟩
 refine ite2 (fun c3=>?_) (fun c3=>?_)
 ·have c3:e/2-W.ins-1<((bs.map V.ref).length:Nat):=of_decide_eq_true c3
  rw [hbl] at c3
  rw [if_pos c3] at q
  obtain ⟨k,hk⟩:=Int.eq_ofNat_of_zero_le (show 0<=e/2-W.ins-1 by lia)
  have hk2:k<W.boxes.length:=by lia
  obtain ⟨r,h1,h2⟩:=hB.get hk2
  have hb2:=(ok.box _ (List.getElem_mem hk2)).2.1
  rw [hk,Int.toNat_natCast,List.getD_eq_getElem?_getD,List.getElem?_eq_getElem hk2] at q
  refine ⟨_,rfl,_,rfl,w,_,_,_,rfl,rfl,SqT.of hW.w,rfl,_,rfl,b,_,_,_,rfl,rfl,SqL.of hB.1,(by rw [hk];exact v_x h1),r,_,_,_,rfl,rfl,SqT.of h2,rfl,w,b,g,o,W,_,rfl,hW,ok,hb2,_,rfl,_,_,rfl,rfl,(by show (0:Int)<2;decide),_,_,rfl,rfl,?_⟩
  dsimp only
  rw [xor_xr]
  exact q
 ·have c3:¬e/2-W.ins-1<((bs.map V.ref).length:Nat):=fun h=>c3 (decide_eq_true h)
  rw [hbl] at c3
  rw [if_neg c3] at q
  refine ⟨_,rfl,_,rfl,w,_,_,_,rfl,rfl,SqT.of hW.w,rfl,_,rfl,w,_,_,_,rfl,rfl,SqT.of hW.w,rfl,_,_,rfl,.inl ⟨_,SqL.of hG.1,rfl⟩,_,_,rfl,rfl,_,_,rfl,rfl,.inl ⟨by decide,by decide⟩,_,_,rfl,rfl,?_⟩
  rw [hgl]
  exact q
theorem l_c(T:Tx w K mg A)(G_now_end:FnOk P w K mg base CX0 1 A.a_now_end A.d_now_end ["work", "end"] t_c)(G_then_end:FnOk P w K mg base CX0 2 A.a_then_end A.d_then_end ["work", "end"] t_j):FnOk P w K mg base CX0 3 A.a_next_net A.d_next_net ["work"] q_c:=by
 refine T.F_next_net.ok sc_next_net (fun vs H Q E h=>?_) (fun cdv A' outer s H vs Q E hr h=>?_)
 ·obtain ⟨w,b,g,o,W,rfl,hW,ok,q⟩:=h
  rfl
 obtain ⟨w,b,g,o,W,rfl,hW,ok,q⟩:=h
 refine ⟨_,(z_e (s_u ["one", "other"] [0] sc_next_net.nd (i:=1) rfl (Or.inl rfl) (fun _ _ h=>h) rfl (y_d (z_l ix_tup0 (pv 0) z_c (fun _ _=>rfl))) (fun _ _ _ _=>(y_x rfl (z_u (z_t (i:=0) (show (["one", "other", "work"]:List Str).Nodup by decide +kernel) rfl (Or.inl rfl)) (z_u (z_t (i:=1) (show (["one", "other", "work"]:List Str).Nodup by decide +kernel) rfl (Or.inl rfl)) y_o)))) w_q (fun _ _ _ _=>y_a) (fun _ _ _ _=>(y_e (z_a (z_j G_now_end (hr.mono (by first | decide | lia)) rfl T.M_now_end T.F_now_end.kp T.B_now_end .nil pass0 (z_a (pv 2) (z_a (pv 0) z_b))) (z_a (z_j G_now_end (hr.mono (by first | decide | lia)) rfl T.M_now_end T.F_now_end.kp T.B_now_end .nil pass0 (z_a (pv 2) (z_a (pv 1) z_b))) z_b)))) rfl (show ∀ j∈([0]:List Nat),j<2 by decide) (by with_unfolding_all rfl))
  (z_e (y_l (w_u PySem.F.plainAttrs_list PySem.F.slot_list_extend PySem.F.type_list_extend t_o (pv 1) (z_a (t_q ["one", "other"] [0] (fun _ _ h=>h) rfl (y_d (z_l ix_tup0 (pv 0) z_c (fun _ _=>rfl))) (fun _ _ _ _=>(y_x rfl (z_u (z_t (i:=0) (show (["one", "other", "work"]:List Str).Nodup by decide +kernel) rfl (Or.inl rfl)) (z_u (z_t (i:=1) (show (["one", "other", "work"]:List Str).Nodup by decide +kernel) rfl (Or.inl rfl)) y_o)))) w_q (fun _ _ _ _=>y_a) (fun _ _ _ _=>(y_e (z_a (z_j G_then_end (hr.mono (by first | decide | lia)) rfl T.M_then_end T.F_then_end.kp T.B_then_end .nil pass0 (z_a (pv 2) (z_a (pv 0) z_b))) (z_a (z_j G_then_end (hr.mono (by first | decide | lia)) rfl T.M_then_end T.F_then_end.kp T.B_then_end .nil pass0 (z_a (pv 2) (z_a (pv 1) z_b))) z_b)))) rfl (show ∀ j∈([0]:List Nat),j<2 by decide)) z_b)))
  (z_h (z_y (y_e (z_a (z_k z_x (z_k y_h z_c (z_l ix_tup0 (pv 0) z_c (fun _ _=>rfl))) (z_m z_s rfl T.len PySem.boot_len (z_a (z_l ix_tup0 (pv 0) z_c (fun _ _=>rfl)) z_b))) (z_a (pv 1) z_b))))))),?_⟩
 obtain ⟨bs,hB⟩:=hW.b
 obtain ⟨gs,hG⟩:=hW.g
 have hg2:=ok.gates
 have ends:∀ p∈W.gates,0<=p.1/\0<=p.2:=fun p hp=>by
  obtain ⟨k,hk⟩:=List.mem_iff_getElem?.mp hp
  obtain ⟨⟨a0,_⟩,b0,_⟩:=ok.gate k p hk
  exact ⟨a0,b0⟩
 refine ⟨_,rfl,w,_,_,_,rfl,rfl,SqT.of hW.w,rfl,g,rfl,⟨_,SqL.of hG.1⟩,y_p (fun p=>(neF W p.1,neF W p.2)) hG (by lia) (fun p hp H1 s1 N hN=>?_) fun ts H1 s1 hb g' hg'=>?_⟩
 ·exact ⟨_,rfl,_,rfl,w,b,g,o,W,_,rfl,hW.same s1,ok,(ends p hp).1,_,rfl,_,rfl,w,b,g,o,W,_,rfl,hW.same s1,ok,(ends p hp).2,zl2,hN⟩
 have s2:=z_f hg' (.lst (ts.map V.ref))
 have hW2:=hW.same (s1.trans s2)
 have hG2:=hG.same (s1.trans s2)
 refine ⟨_,rfl,.inl ⟨rfl,_,SqL.of z_d⟩,_,rfl,w,_,_,_,rfl,rfl,SqT.of hW2.w,rfl,g,rfl,⟨_,SqL.of hG2.1⟩,y_p (fun p=>(teF W p.1,teF W p.2)) hG2 (by lia) (fun p hp H3 s3 N hN=>?_) fun us H3 s3 hb3 g3 hg3=>?_⟩
 ·exact ⟨_,rfl,_,rfl,w,b,g,o,W,_,rfl,hW2.same s3,ok,(ends p hp).1,_,rfl,_,rfl,w,b,g,o,W,_,rfl,hW2.same s3,ok,(ends p hp).2,zl2,hN⟩
 have hgp:g'≠g3:=fun e=>by
  have:=s3 _ _ (z_d (H:=H1) (a:=g') (o:=.lst (ts.map V.ref)))
  rw [e,hg3] at this
  cases this
 have s4:=z_f hg3 (.lst (us.map V.ref))
 have hl1:ts.length=W.gates.length:=by rw [Paired.length hb,List.length_map]
 have hl2:us.length=W.gates.length:=by rw [Paired.length hb3,List.length_map]
 refine ⟨g',g3,_,_,rfl,rfl,(s3.trans s4) _ _ z_d,z_d,(by rw [List.length_map,List.length_map,hl1,hl2];exact small (by lia)),?_⟩
 have hng:=s1.free hg'
 have s5:=x_c (s1.trans (s2.trans (s3.trans s4))) hng (.lst (ts.map V.ref++us.map V.ref))
 have hW5:=hW.same s5
 refine ⟨_,rfl,w,_,_,_,rfl,rfl,SqT.of hW5.w,rfl,_,_,rfl,rfl,.inl ⟨by decide,by decide⟩,_,rfl,w,_,_,_,rfl,rfl,SqT.of hW5.w,rfl,_,_,rfl,.inl ⟨_,SqL.of (s5 _ _ hB.1),rfl⟩,_,_,rfl,rfl,_,rfl,zl2,fun p hp=>?_⟩
 have s6:=z_f hp (.tup [.int (2*(W.ins:Int)+((bs.map V.ref).length:Nat)),.ref g'])
 have hne:p≠g':=fun e=>by rw [e,z_d] at hp;cases hp
 refine q p g' (ts++us) _ (s5.free hp) hng hne (s5.trans s6) ⟨?_,s6 _ _ (by rw [z_d,List.map_append]),?_⟩
 ·rw [z_d,List.length_map,hB.length]
  push_cast
  rfl
 ·have keep:∀ {r:Addr} {xs:List V},H3 r=some (.tup xs)->(upd (upd (upd H3 g3 (.lst (us.map V.ref))) g' (.lst (ts.map V.ref++us.map V.ref))) p (.tup [.int (2*(W.ins:Int)+((bs.map V.ref).length:Nat)),.ref g'])) r=some (.tup xs):=fun {r xs} h=>by
   have h1:=s4 _ _ h
   have hr:r≠g':=fun e=>by
    rw [e,s3 _ _ z_d] at h
    cases h
   exact s6 _ _ (by rw [z_r hr];exact h1)
  have a1:=z_w (S:=fun r (x:Int×Int)=>(upd (upd (upd H3 g3 (.lst (us.map V.ref))) g' (.lst (ts.map V.ref++us.map V.ref))) p (.tup [.int (2*(W.ins:Int)+((bs.map V.ref).length:Nat)),.ref g'])) r=some (.tup [.int x.1,.int x.2])) (fun r x h=>keep ((s2.trans s3) _ _ h)) hb
  have a2:=z_w (S:=fun r (x:Int×Int)=>(upd (upd (upd H3 g3 (.lst (us.map V.ref))) g' (.lst (ts.map V.ref++us.map V.ref))) p (.tup [.int (2*(W.ins:Int)+((bs.map V.ref).length:Nat)),.ref g'])) r=some (.tup [.int x.1,.int x.2])) (fun r x h=>keep h) hb3
  exact pairedApp a2 a1
theorem m_z(T:Tx w K mg A):FnOk P w K mg base CX0 1 A.a_is_whole A.d_is_whole ["thing"] m_a:=by
 refine T.F_is_whole.ok l_l (fun vs H Q E h=>?_) (fun cdv A' outer s H vs Q E hr h=>?_)
 ·obtain ⟨i,rfl,q⟩:=h
  rfl
 obtain ⟨i,rfl,q⟩:=h
 refine ⟨_,(z_h (z_y (r_o (z_m (x_t (T := "int")) rfl T.isinstance PyProof.Rows.boot_isinstance (z_a (pv 0) (z_a (u_c (v:=.ty "int") rfl T.int PyProof.Rows.boot_int rfl) z_b))) (n_h (pe_not (z_m (x_t (T := "bool")) rfl T.isinstance PyProof.Rows.boot_isinstance (z_a (pv 0) (z_a (u_c (v:=.ty "bool") rfl T.bool PyProof.Rows.boot_bool rfl) z_b)))))))),?_⟩
 refine ⟨_,rfl,_,_,true,rfl,TyOf.int _,rfl,_,rfl,?_⟩
 exact iteT ⟨_,rfl,_,_,false,rfl,TyOf.int _,rfl,_,rfl,q⟩
theorem p_d(T:Tx w K mg A)(G_is_whole:FnOk P w K mg base CX0 1 A.a_is_whole A.d_is_whole ["thing"] m_a):FnOk P w K mg base CX0 2 A.a_is_between A.d_is_between ["thing", "low", "high"] f_g:=by
 refine T.F_is_between.ok p_n (fun vs H Q E h=>?_) (fun cdv A' outer s H vs Q E hr h=>?_)
 ·obtain ⟨i,lo,hi,rfl,q⟩:=h
  rfl
 obtain ⟨i,lo,hi,rfl,q⟩:=h
 refine ⟨_,(z_h (z_y (r_o (z_j G_is_whole (hr.mono (by first | decide | lia)) rfl T.M_is_whole T.F_is_whole.kp T.B_is_whole .nil pass0 (z_a (pv 0) z_b)) (n_h (pe_chain i_h i_h (pv 1) (pv 0) (pv 2)))))),?_⟩
 refine ⟨_,rfl,i,rfl,_,rfl,?_⟩
 refine iteT ⟨_,rfl,_,rfl,_,_,rfl,rfl,_,rfl,?_⟩
 by_cases h:lo<=i
 ·rw [decide_eq_true h,Bool.true_and] at q
  exact v_i (decide_eq_true h) ⟨_,rfl,_,_,rfl,rfl,q⟩
 ·rw [decide_eq_false h,Bool.false_and] at q
  exact x_d (decide_eq_false h) q
theorem p_b(T:Tx w K mg A):FnOk P w K mg base CX0 1 A.a_all_stands A.d_all_stands ["many"] t_y:=by
 refine T.F_all_stands.ok sc_all_stands (fun vs H Q E h=>?_) (fun cdv A' outer s H vs Q E hr h=>?_)
 ·obtain ⟨n,rfl,hn,q⟩:=h
  rfl
 obtain ⟨n,rfl,hn,q⟩:=h
 refine ⟨_,(z_e (z_v (i:=1) sc_all_stands.nd rfl (Or.inl rfl) (x_i z_b))
  (z_e (z_v (i:=2) sc_all_stands.nd rfl (Or.inl rfl) z_c)
  (z_e (z_v (i:=3) sc_all_stands.nd rfl (Or.inr rfl) z_c)
  (z_e (x_q PassesOwn.never rfl (y_j rfl T.range (z_a (pv 0) z_b)) (z_t (i:=4) sc_all_stands.nd rfl (Or.inl rfl))
    (z_e (u_m [3] sc_all_stands.nd (i:=1) rfl (Or.inl rfl) (fun _ _ h=>h) rfl (y_d (pv 1)) (fun _ _ _ _=>y_a) (fun _ _ _ _=>(z_k y_h (pv 0) (z_k z_x (pv 1) z_c))) rfl (show ∀ j∈([3]:List Nat),j<5 by decide) (show (["number", "beyond"]:List Str).Nodup by decide +kernel) (by with_unfolding_all rfl))
  (z_e (y_l (w_u PySem.F.plainAttrs_list PySem.F.slot_list_append PySem.F.type_list_append x_a (pv 1) (z_a (z_k y_h (pv 2) (pv 3)) z_b)))
  (z_e (z_v (i:=2) sc_all_stands.nd rfl (Or.inl rfl) (z_k y_h (pv 2) (z_k z_x (pv 3) z_c)))
  (z_h (z_v (i:=3) sc_all_stands.nd rfl (Or.inr rfl) (z_k y_h (pv 3) (pv 3))))))))
  (z_h (z_y (y_e (z_a (pv 1) (z_a (pv 2) z_b))))))))),?_⟩
 refine ⟨zl0,fun z hz=>?_⟩
 have s0:=z_f hz (.lst [])
 refine ⟨_,rfl,_,rfl,by lia,by lia,v_k (lo:=0) (fun i σ H'=>∃ (x:Option V) (a:Addr),σ=[some (.int (n:Int)),some (.ref a),some (.int ((2^2^i-1:Nat):Int)),some (.int ((2^2^i:Nat):Int)),x]/\Same H H'/\H a=none/\H' a=some (.lst ((sdL i).map fun x=>.int ((x:Nat):Int)))) ⟨_,_,rfl,s0,hz,z_d⟩ ?_ ?_⟩
 ·rintro i σ H3 hi ⟨x,a,rfl,s3,ha,fa⟩
  have hi6:i<6:=by lia
  have p32:2^2^i<=2^32:=Nat.pow_le_pow_right (by decide) (Nat.le_trans (Nat.pow_le_pow_right (by decide) (show i<=5 by lia)) (by decide))
  have p1:=Nat.one_le_two_pow (n:=2^i)
  have e1:=g_i i
  have e2:=sq_succ i
  have e3:=sdL_succ i
  have hl:=p_p (n:=i)
  generalize 2^2^i=b at p32 p1 e1 e2 e3 ⊢
  generalize 2^2^(i+1)=b' at e1 e2 ⊢
  refine ⟨_,rfl,a,rfl,⟨_,SqL.of fa⟩,v_z (xs:=(sdL i).map fun x=>V.int ((x:Nat):Int)) (onI (· * ((b:Int)+1))) (SqL.of fa) (by rw [List.length_map,hl];lia) (fun x hx N hN=>?_) ?_⟩
  ·obtain ⟨v,_,rfl⟩:=List.mem_map.mp hx
   exact ⟨_,rfl,_,rfl,_,_,rfl,rfl,_,_,rfl,rfl,.inr ⟨by lia,by lia⟩,hN⟩
  intro y hy
  have hm:((sdL i).map fun x=>V.int ((x:Nat):Int)).map (onI (· * ((b:Int)+1)))=((sdL i).map fun x=>x*(b+1)).map fun x=>V.int ((x:Nat):Int):=by
   rw [List.map_map,List.map_map]
   refine List.map_congr_left fun x _=>?_
   show V.int (((x:Nat):Int)*((b:Int)+1))=V.int ((x*(b+1):Nat):Int)
   rw [Int.natCast_mul,Int.natCast_add]
   rfl
  rw [hm]
  refine ⟨_,rfl,.inl ⟨rfl,_,SqL.of z_d⟩,_,rfl,_,rfl,_,_,rfl,rfl,.inr ⟨by lia,by lia⟩,y,_,_,rfl,rfl,z_d,y_b (by rw [List.length_map,List.length_map,hl];lia),?_⟩
  refine ⟨_,rfl,_,rfl,_,_,rfl,rfl,_,_,rfl,rfl,.inr ⟨by lia,by lia⟩,?_⟩
  refine ⟨_,rfl,_,rfl,_,_,rfl,rfl,.inr ⟨by lia,by lia⟩,?_⟩
  refine ⟨some (.int (0+(i:Int))),y,?_,x_c (x_c s3 (s3.free hy) _) (s3.free hy) _,s3.free hy,?_⟩
  ·have a1:((b-1:Nat):Int)*((b:Int)+1)=((b'-1:Nat):Int):=by rw [<-e1,Int.natCast_mul,Int.natCast_add];rfl
   have a2:(b:Int)*(b:Int)=(b':Int):=by rw [<-e2,Int.natCast_mul]
   rw [<-a1,<-a2]
   rfl
  ·rw [z_d,e3,List.map_append]
   show _=some (HO.lst (_++[V.int (((b-1)*b:Nat):Int)]))
   rw [Int.natCast_mul]
 ·rintro σ H3 ⟨x,a,rfl,s3,ha,fa⟩
  refine ⟨_,rfl,_,rfl,zl2,fun p hp=>?_⟩
  exact q p a _ (s3.free hp) ha (s3.trans (z_f hp _)) z_d (z_f hp _ _ _ fa)
theorem l_a(T:Tx w K mg A):FnOk P w K mg base CX0 1 A.a_knots_in A.d_knots_in ["work"] k_w:=by
 refine T.F_knots_in.ok l_m (fun vs H Q E h=>?_) (fun cdv A' outer s H vs Q E hr h=>?_)
 ·obtain ⟨w,b,g,o,W,rfl,hW,q⟩:=h
  rfl
 obtain ⟨w,b,g,o,W,rfl,hW,q⟩:=h
 refine ⟨_,(z_h (z_y (z_k z_x (z_k z_x (z_k z_x z_c (z_l ix_tup0 (pv 0) z_c (fun _ _=>rfl))) (z_m z_s rfl T.len PySem.boot_len (z_a (z_l ix_tup0 (pv 0) z_c (fun _ _=>rfl)) z_b))) (z_m z_s rfl T.len PySem.boot_len (z_a (z_l ix_tup0 (pv 0) z_c (fun _ _=>rfl)) z_b))))),?_⟩
 obtain ⟨bs,hb⟩:=hW.b
 obtain ⟨gs,hg⟩:=hW.g
 refine ⟨_,rfl,w,_,_,_,rfl,rfl,SqT.of hW.w,rfl,_,_,rfl,rfl,_,rfl,w,_,_,_,rfl,rfl,SqT.of hW.w,rfl,_,_,rfl,.inl ⟨_,SqL.of hb.1,rfl⟩,_,_,rfl,rfl,_,rfl,w,_,_,_,rfl,rfl,SqT.of hW.w,rfl,_,_,rfl,.inl ⟨_,SqL.of hg.1,rfl⟩,_,_,rfl,rfl,?_⟩
 show Q (V.int (1+(W.ins:Int)+(((bs.map V.ref).length:Nat):Int)+(((gs.map V.ref).length:Nat):Int))) H
 rw [List.length_map,List.length_map,hb.length,hg.length,show 1+(W.ins:Int)+((W.boxes.length:Nat):Int)+((W.gates.length:Nat):Int)=((W.knots:Nat):Int) by rw [W.knots_is];lia]
 exact q
theorem g_h(T:Tx w K mg A)(G_is_between:FnOk P w K mg base CX0 2 A.a_is_between A.d_is_between ["thing", "low", "high"] f_g):FnOk P w K mg base CX0 3 A.a_is_end A.d_is_end ["thing", "knots"] l_o:=by
 refine T.F_is_end.ok f_d (fun vs H Q E h=>?_) (fun cdv A' outer s H vs Q E hr h=>?_)
 ·obtain ⟨i,k,rfl,q⟩:=h
  rfl
 obtain ⟨i,k,rfl,q⟩:=h
 refine ⟨_,(z_h (z_y (z_j G_is_between (hr.mono (by first | decide | lia)) rfl T.M_is_between T.F_is_between.kp T.B_is_between .nil pass0 (z_a (pv 0) (z_a z_c (z_a (z_k v_n (z_k y_h z_c (pv 1)) z_c) z_b)))))),?_⟩
 exact ⟨_,rfl,_,rfl,_,_,rfl,rfl,.inl ⟨by decide,by decide⟩,_,_,rfl,rfl,i,_,_,rfl,q⟩
theorem i_d(T:Tx w K mg A)(G_is_end:FnOk P w K mg base CX0 3 A.a_is_end A.d_is_end ["thing", "knots"] l_o):FnOk P w K mg base CX0 4 A.a_is_pair A.d_is_pair ["thing", "knots"] q_a:=by
 refine T.F_is_pair.ok i_j (fun vs H Q E h=>?_) (fun cdv A' outer s H vs Q E hr h=>?_)
 ·obtain ⟨r,p,k,rfl,hp,h1,h2,q⟩:=h
  rfl
 obtain ⟨r,p,k,rfl,hp,h1,h2,q⟩:=h
 refine ⟨_,(z_h (z_y (r_o (z_m (x_t (T := "tuple")) rfl T.isinstance PyProof.Rows.boot_isinstance (z_a (pv 0) (z_a (u_c (v:=.ty "tuple") rfl T.tuple PyProof.Rows.boot_tuple rfl) z_b))) (r_o (u_k s_l (z_m z_s rfl T.len PySem.boot_len (z_a (pv 0) z_b)) z_c (nomark _)) (r_o (z_j G_is_end (hr.mono (by first | decide | lia)) rfl T.M_is_end T.F_is_end.kp T.B_is_end .nil pass0 (z_a (z_l ix_tup0 (pv 0) z_c (fun _ _=>rfl)) (z_a (pv 1) z_b))) (n_h (z_j G_is_end (hr.mono (by first | decide | lia)) rfl T.M_is_end T.F_is_end.kp T.B_is_end .nil pass0 (z_a (z_l ix_tup0 (pv 0) z_c (fun _ _=>rfl)) (z_a (pv 1) z_b))))))))),?_⟩
 refine ⟨_,rfl,_,_,true,rfl,TyOf.tup hp,rfl,_,rfl,iteT ?_⟩
 refine ⟨_,rfl,_,_,rfl,.inr ⟨_,SqT.of hp,rfl⟩,rfl,_,rfl,v_i (by show decide (V.int ((2:Nat):Int)=V.int 2)=true;decide) ?_⟩
 refine ⟨_,rfl,r,_,_,_,rfl,rfl,SqT.of hp,rfl,_,rfl,_,_,rfl,_,rfl,v_i (by simp only [Bool.and_eq_true,decide_eq_true_eq];lia) ?_⟩
 refine ⟨_,rfl,r,_,_,_,rfl,rfl,SqT.of hp,rfl,_,rfl,_,_,rfl,?_⟩
 have e:(decide ((0:Int)<=(p.2:Int))&&decide ((p.2:Int)<=2*(k:Int)-1))=true:=by simp only [Bool.and_eq_true,decide_eq_true_eq];lia
 rw [e]
 exact q
theorem n_a(T:Tx w K mg A):FnOk P w K mg base CX0 1 A.a_first_end A.d_first_end ["one", "other", "end"] u_v:=by
 refine T.F_first_end.ok n_p (fun vs H Q E h=>?_) (fun cdv A' outer s H vs Q E hr h=>?_)
 ·obtain ⟨w,b,g,o,w',b',g',o',A,B,e,rfl,hA,hB,q⟩:=h
  rfl
 obtain ⟨w,b,g,o,w',b',g',o',A,B,e,rfl,hA,hB,q⟩:=h
 refine ⟨_,(z_e (x_j (z_z i_h (z_k y_n (pv 2) z_c) (z_k z_x (z_l ix_tup0 (pv 0) z_c (fun _ _=>rfl)) (z_m z_s rfl T.len PySem.boot_len (z_a (z_l ix_tup0 (pv 0) z_c (fun _ _=>rfl)) z_b))) (nomark _)) (z_h (z_y (pv 2))) y_c)
  (z_h (z_y (z_k z_x (pv 2) (z_k y_h z_c (z_m z_s rfl T.len PySem.boot_len (z_a (z_l ix_tup0 (pv 1) z_c (fun _ _=>rfl)) z_b))))))),?_⟩
 obtain ⟨bs,hb⟩:=hA.b
 obtain ⟨cs,hc⟩:=hB.b
 have hbl:(bs.map V.ref).length=A.boxes.length:=by rw [List.length_map,hb.length]
 have hcl:(cs.map V.ref).length=B.boxes.length:=by rw [List.length_map,hc.length]
 refine ⟨_,rfl,_,_,rfl,rfl,⟨by decide,by decide⟩,_,rfl,w,_,_,_,rfl,rfl,SqT.of hA.w,rfl,_,rfl,w,_,_,_,rfl,rfl,SqT.of hA.w,rfl,_,_,rfl,.inl ⟨_,SqL.of hb.1,rfl⟩,_,_,rfl,rfl,_,_,rfl,rfl,_,rfl,?_⟩
 refine ite2 (fun c=>?_) (fun c=>?_)
 ·have c:e/2<=(A.ins:Int)+((bs.map V.ref).length:Nat):=of_decide_eq_true c
  rw [hbl] at c
  have he:F1 A B e=e:=by
   unfold F1 leF
   split
   ·lia
   ·split<;>lia
  rw [he] at q
  exact ⟨_,rfl,q⟩
 ·have c:¬e/2<=(A.ins:Int)+((bs.map V.ref).length:Nat):=fun h=>c (decide_eq_true h)
  rw [hbl] at c
  have he:F1 A B e=e+2*(B.boxes.length:Nat):=by
   unfold F1 leF
   rw [if_pos (by lia)]
   lia
  rw [he,<-hcl] at q
  exact ⟨_,rfl,_,rfl,w',_,_,_,rfl,rfl,SqT.of hB.w,rfl,_,_,rfl,.inl ⟨_,SqL.of hc.1,rfl⟩,_,_,rfl,rfl,.inl ⟨by decide,by decide⟩,_,_,rfl,rfl,q⟩
theorem p_g(T:Tx w K mg A):FnOk P w K mg base CX0 1 A.a_second_end A.d_second_end ["one", "other", "end"] u_f:=by
 refine T.F_second_end.ok p_o (fun vs H Q E h=>?_) (fun cdv A' outer s H vs Q E hr h=>?_)
 ·obtain ⟨w,b,g,o,w',b',g',o',A,B,e,rfl,hA,hB,hi,q⟩:=h
  rfl
 obtain ⟨w,b,g,o,w',b',g',o',A,B,e,rfl,hA,hB,hi,q⟩:=h
 refine ⟨_,(z_e (x_j (z_z i_h (z_k y_n (pv 2) z_c) (z_l ix_tup0 (pv 1) z_c (fun _ _=>rfl)) (nomark _)) (z_h (z_y (pv 2))) y_c)
  (z_e (x_j (z_z i_h (z_k y_n (pv 2) z_c) (z_k z_x (z_l ix_tup0 (pv 1) z_c (fun _ _=>rfl)) (z_m z_s rfl T.len PySem.boot_len (z_a (z_l ix_tup0 (pv 1) z_c (fun _ _=>rfl)) z_b))) (nomark _)) (z_h (z_y (z_k z_x (pv 2) (z_k y_h z_c (z_m z_s rfl T.len PySem.boot_len (z_a (z_l ix_tup0 (pv 0) z_c (fun _ _=>rfl)) z_b)))))) y_c)
  (z_h (z_y (z_k z_x (pv 2) (z_k y_h z_c (z_k z_x (z_m z_s rfl T.len PySem.boot_len (z_a (z_l ix_tup0 (pv 0) z_c (fun _ _=>rfl)) z_b)) (z_m z_s rfl T.len PySem.boot_len (z_a (z_l ix_tup0 (pv 0) z_c (fun _ _=>rfl)) z_b))))))))),?_⟩
 obtain ⟨bs,hb⟩:=hA.b
 obtain ⟨gs,hg⟩:=hA.g
 obtain ⟨cs,hc⟩:=hB.b
 have hbl:(bs.map V.ref).length=A.boxes.length:=by rw [List.length_map,hb.length]
 have hgl:(gs.map V.ref).length=A.gates.length:=by rw [List.length_map,hg.length]
 have hcl:(cs.map V.ref).length=B.boxes.length:=by rw [List.length_map,hc.length]
 refine ⟨_,rfl,_,_,rfl,rfl,⟨by decide,by decide⟩,_,rfl,w',_,_,_,rfl,rfl,SqT.of hB.w,rfl,_,_,rfl,rfl,_,rfl,?_⟩
 refine ite2 (fun c=>?_) (fun c=>?_)
 ·have c:e/2<=(B.ins:Int):=of_decide_eq_true c
  have he:F2 A B e=e:=by
   unfold F2 leF
   rw [if_neg (by lia),if_neg (by lia)]
   lia
  rw [he] at q
  exact ⟨_,rfl,q⟩
 have c:¬e/2<=(B.ins:Int):=fun h=>c (decide_eq_true h)
 refine ⟨_,rfl,_,_,rfl,rfl,⟨by decide,by decide⟩,_,rfl,w',_,_,_,rfl,rfl,SqT.of hB.w,rfl,_,rfl,w',_,_,_,rfl,rfl,SqT.of hB.w,rfl,_,_,rfl,.inl ⟨_,SqL.of hc.1,rfl⟩,_,_,rfl,rfl,_,_,rfl,rfl,_,rfl,?_⟩
 refine ite2 (fun c2=>?_) (fun c2=>?_)
 ·have c2:e/2<=(B.ins:Int)+((cs.map V.ref).length:Nat):=of_decide_eq_true c2
  rw [hcl] at c2
  have he:F2 A B e=e+2*(A.boxes.length:Nat):=by
   unfold F2 leF
   rw [if_neg (by lia),if_pos (by lia)]
   lia
  rw [he,<-hbl] at q
  exact ⟨_,rfl,_,rfl,w,_,_,_,rfl,rfl,SqT.of hA.w,rfl,_,_,rfl,.inl ⟨_,SqL.of hb.1,rfl⟩,_,_,rfl,rfl,.inl ⟨by decide,by decide⟩,_,_,rfl,rfl,q⟩
 ·have c2:¬e/2<=(B.ins:Int)+((cs.map V.ref).length:Nat):=fun h=>c2 (decide_eq_true h)
  rw [hcl] at c2
  have he:F2 A B e=e+2*(((A.boxes.length:Nat):Int)+(A.gates.length:Nat)):=by
   unfold F2 leF
   rw [if_pos (by lia)]
   lia
  rw [he,<-hbl,<-hgl] at q
  exact ⟨_,rfl,_,rfl,w,_,_,_,rfl,rfl,SqT.of hA.w,rfl,_,_,rfl,.inl ⟨_,SqL.of hb.1,rfl⟩,_,rfl,w,_,_,_,rfl,rfl,SqT.of hA.w,rfl,_,_,rfl,.inl ⟨_,SqL.of hg.1,rfl⟩,_,_,rfl,rfl,_,_,rfl,rfl,.inl ⟨by decide,by decide⟩,_,_,rfl,rfl,q⟩
theorem g_g(T:Tx w K mg A)(G_first_end:FnOk P w K mg base CX0 1 A.a_first_end A.d_first_end ["one", "other", "end"] u_v)(G_second_end:FnOk P w K mg base CX0 1 A.a_second_end A.d_second_end ["one", "other", "end"] u_f):FnOk P w K mg base CX0 2 A.a_beside A.d_beside ["one", "other"] n_y:=by
 refine T.F_beside.ok sc_beside (fun vs H Q E h=>?_) (fun cdv A' outer s H vs Q E hr h=>?_)
 ·obtain ⟨w,b,g,o,w',b',g',o',A,B,rfl,hA,hB,okA,okB,hi,q⟩:=h
  rfl
 obtain ⟨w,b,g,o,w',b',g',o',A,B,rfl,hA,hB,okA,okB,hi,q⟩:=h
 refine ⟨_,(z_e (s_u ["first", "end"] [0,1] sc_beside.nd (i:=2) rfl (Or.inl rfl) (fun _ _ h=>h) rfl (y_d (z_l ix_tup0 (pv 0) z_c (fun _ _=>rfl))) (fun _ _ _ _=>(y_x rfl (z_u (z_t (i:=0) (show (["first", "end", "one", "other"]:List Str).Nodup by decide +kernel) rfl (Or.inl rfl)) (z_u (z_t (i:=1) (show (["first", "end", "one", "other"]:List Str).Nodup by decide +kernel) rfl (Or.inl rfl)) y_o)))) w_q (fun _ _ _ _=>y_a) (fun _ _ _ _=>(y_e (z_a (pv 0) (z_a (z_j G_first_end (hr.mono (by first | decide | lia)) rfl T.M_first_end T.F_first_end.kp T.B_first_end .nil pass0 (z_a (pv 2) (z_a (pv 3) (z_a (pv 1) z_b)))) z_b)))) rfl (show ∀ j∈([0,1]:List Nat),j<5 by decide) (by with_unfolding_all rfl))
  (z_e (y_l (w_u PySem.F.plainAttrs_list PySem.F.slot_list_extend PySem.F.type_list_extend t_o (pv 2) (z_a (t_q ["first", "end"] [0,1] (fun _ _ h=>h) rfl (y_d (z_l ix_tup0 (pv 1) z_c (fun _ _=>rfl))) (fun _ _ _ _=>(y_x rfl (z_u (z_t (i:=0) (show (["first", "end", "one", "other"]:List Str).Nodup by decide +kernel) rfl (Or.inl rfl)) (z_u (z_t (i:=1) (show (["first", "end", "one", "other"]:List Str).Nodup by decide +kernel) rfl (Or.inl rfl)) y_o)))) w_q (fun _ _ _ _=>y_a) (fun _ _ _ _=>(y_e (z_a (pv 0) (z_a (z_j G_second_end (hr.mono (by first | decide | lia)) rfl T.M_second_end T.F_second_end.kp T.B_second_end .nil pass0 (z_a (pv 2) (z_a (pv 3) (z_a (pv 1) z_b)))) z_b)))) rfl (show ∀ j∈([0,1]:List Nat),j<5 by decide)) z_b)))
  (z_e (s_u ["a", "b"] [0,1] sc_beside.nd (i:=3) rfl (Or.inl rfl) (fun _ _ h=>h) rfl (y_d (z_l ix_tup0 (pv 0) z_c (fun _ _=>rfl))) (fun _ _ _ _=>(y_x rfl (z_u (z_t (i:=0) (show (["a", "b", "one", "other"]:List Str).Nodup by decide +kernel) rfl (Or.inl rfl)) (z_u (z_t (i:=1) (show (["a", "b", "one", "other"]:List Str).Nodup by decide +kernel) rfl (Or.inl rfl)) y_o)))) w_q (fun _ _ _ _=>y_a) (fun _ _ _ _=>(y_e (z_a (z_j G_first_end (hr.mono (by first | decide | lia)) rfl T.M_first_end T.F_first_end.kp T.B_first_end .nil pass0 (z_a (pv 2) (z_a (pv 3) (z_a (pv 0) z_b)))) (z_a (z_j G_first_end (hr.mono (by first | decide | lia)) rfl T.M_first_end T.F_first_end.kp T.B_first_end .nil pass0 (z_a (pv 2) (z_a (pv 3) (z_a (pv 1) z_b)))) z_b)))) rfl (show ∀ j∈([0,1]:List Nat),j<5 by decide) (by with_unfolding_all rfl))
  (z_e (y_l (w_u PySem.F.plainAttrs_list PySem.F.slot_list_extend PySem.F.type_list_extend t_o (pv 3) (z_a (t_q ["a", "b"] [0,1] (fun _ _ h=>h) rfl (y_d (z_l ix_tup0 (pv 1) z_c (fun _ _=>rfl))) (fun _ _ _ _=>(y_x rfl (z_u (z_t (i:=0) (show (["a", "b", "one", "other"]:List Str).Nodup by decide +kernel) rfl (Or.inl rfl)) (z_u (z_t (i:=1) (show (["a", "b", "one", "other"]:List Str).Nodup by decide +kernel) rfl (Or.inl rfl)) y_o)))) w_q (fun _ _ _ _=>y_a) (fun _ _ _ _=>(y_e (z_a (z_j G_second_end (hr.mono (by first | decide | lia)) rfl T.M_second_end T.F_second_end.kp T.B_second_end .nil pass0 (z_a (pv 2) (z_a (pv 3) (z_a (pv 0) z_b)))) (z_a (z_j G_second_end (hr.mono (by first | decide | lia)) rfl T.M_second_end T.F_second_end.kp T.B_second_end .nil pass0 (z_a (pv 2) (z_a (pv 3) (z_a (pv 1) z_b)))) z_b)))) rfl (show ∀ j∈([0,1]:List Nat),j<5 by decide)) z_b)))
  (z_e (u_m [0,1] sc_beside.nd (i:=4) rfl (Or.inl rfl) (fun _ _ h=>h) rfl (y_d (z_l ix_tup0 (pv 0) z_c (fun _ _=>rfl))) (fun _ _ _ _=>y_a) (fun _ _ _ _=>(z_j G_first_end (hr.mono (by first | decide | lia)) rfl T.M_first_end T.F_first_end.kp T.B_first_end .nil pass0 (z_a (pv 1) (z_a (pv 2) (z_a (pv 0) z_b))))) rfl (show ∀ j∈([0,1]:List Nat),j<5 by decide) (show (["end", "one", "other"]:List Str).Nodup by decide +kernel) (by with_unfolding_all rfl))
  (z_e (y_l (w_u PySem.F.plainAttrs_list PySem.F.slot_list_extend PySem.F.type_list_extend t_o (pv 4) (z_a (y_s [0,1] (fun _ _ h=>h) rfl (y_d (z_l ix_tup0 (pv 1) z_c (fun _ _=>rfl))) (fun _ _ _ _=>y_a) (fun _ _ _ _=>(z_j G_second_end (hr.mono (by first | decide | lia)) rfl T.M_second_end T.F_second_end.kp T.B_second_end .nil pass0 (z_a (pv 1) (z_a (pv 2) (z_a (pv 0) z_b))))) rfl (show ∀ j∈([0,1]:List Nat),j<5 by decide) (show (["end", "one", "other"]:List Str).Nodup by decide +kernel)) z_b)))
  (z_h (z_y (y_e (z_a (z_l ix_tup0 (pv 0) z_c (fun _ _=>rfl)) (z_a (pv 2) (z_a (pv 3) (z_a (pv 4) z_b))))))))))))),?_⟩
 obtain ⟨ba,hba⟩:=hA.b
 obtain ⟨ga,hga⟩:=hA.g
 obtain ⟨bb,hbb⟩:=hB.b
 obtain ⟨gb,hgb⟩:=hB.g
 have l1:=okA.boxes
 have l2:=okB.boxes
 have l3:=okA.gates
 have l4:=okB.gates
 have l5:=okA.outs
 have l6:=okB.outs
 refine ⟨_,rfl,w,_,_,_,rfl,rfl,SqT.of hA.w,rfl,b,rfl,⟨_,SqL.of hba.1⟩,y_p (fun p=>(p.1,F1 A B p.2)) hba (by lia) (fun p hp H1 s1 N hN=>⟨_,rfl,_,rfl,_,rfl,_,rfl,w,b,g,o,w',b',g',o',A,B,_,rfl,hA.same s1,hB.same s1,zl2,hN⟩) fun x1 H1 s1 h1 p1 hp1=>?_⟩
 have P1:=PrsR.mk h1 hp1
 have u1:=z_f hp1 (.lst (x1.map V.ref))
 have t1:=s1.trans u1
 have hbb1:=hbb.same t1
 refine ⟨_,rfl,.inl ⟨rfl,_,SqL.of z_d⟩,_,rfl,w',_,_,_,rfl,rfl,SqT.of (t1 _ _ hB.w),rfl,b',rfl,⟨_,SqL.of hbb1.1⟩,y_p (fun p=>(p.1,F2 A B p.2)) hbb1 (by lia) (fun p hp H2 s2 N hN=>⟨_,rfl,_,rfl,_,rfl,_,rfl,w,b,g,o,w',b',g',o',A,B,_,rfl,hA.same (t1.trans s2),hB.same (t1.trans s2),hi,zl2,hN⟩) fun x2 H2 s2 h2 p2 hp2=>?_⟩
 have P2:=PrsR.mk h2 hp2
 have P1':=(P1.same s2).same (z_f hp2 (.lst (x2.map V.ref)))
 have hl1:(x1.map V.ref).length=A.boxes.length:=by rw [List.length_map,P1.length,List.length_map]
 have hl2:(x2.map V.ref).length=B.boxes.length:=by rw [List.length_map,P2.length,List.length_map]
 refine ⟨p1,p2,_,_,rfl,rfl,P1'.1,P2.1,(by rw [hl1,hl2];exact small (by lia)),?_⟩
 have PB:=P1'.ext P2
 have n1:=s1.free hp1
 have t2:=x_c (t1.trans (s2.trans (z_f hp2 (.lst (x2.map V.ref))))) n1 (.lst (x1.map V.ref++x2.map V.ref))
 have hga2:=hga.same t2
 refine ⟨_,rfl,w,_,_,_,rfl,rfl,SqT.of (t2 _ _ hA.w),rfl,g,rfl,⟨_,SqL.of hga2.1⟩,y_p (fun p=>(F1 A B p.1,F1 A B p.2)) hga2 (by lia) (fun p hp H3 s3 N hN=>⟨_,rfl,_,rfl,_,rfl,w,b,g,o,w',b',g',o',A,B,_,rfl,hA.same (t2.trans s3),hB.same (t2.trans s3),_,rfl,_,rfl,_,rfl,w,b,g,o,w',b',g',o',A,B,_,rfl,hA.same (t2.trans s3),hB.same (t2.trans s3),zl2,hN⟩) fun x3 H3 s3 h3 p3 hp3=>?_⟩
 have P3:=PrsR.mk h3 hp3
 have u3:=z_f hp3 (.lst (x3.map V.ref))
 have PB:=(PB.same s3).same u3
 have t3:=t2.trans (s3.trans u3)
 have hgb3:=hgb.same t3
 refine ⟨_,rfl,.inl ⟨rfl,_,SqL.of z_d⟩,_,rfl,w',_,_,_,rfl,rfl,SqT.of (t3 _ _ hB.w),rfl,g',rfl,⟨_,SqL.of hgb3.1⟩,y_p (fun p=>(F2 A B p.1,F2 A B p.2)) hgb3 (by lia) (fun p hp H4 s4 N hN=>⟨_,rfl,_,rfl,_,rfl,w,b,g,o,w',b',g',o',A,B,_,rfl,hA.same (t3.trans s4),hB.same (t3.trans s4),hi,_,rfl,_,rfl,_,rfl,w,b,g,o,w',b',g',o',A,B,_,rfl,hA.same (t3.trans s4),hB.same (t3.trans s4),hi,zl2,hN⟩) fun x4 H4 s4 h4 p4 hp4=>?_⟩
 have P4:=PrsR.mk h4 hp4
 have u4:=z_f hp4 (.lst (x4.map V.ref))
 have P3':=(P3.same s4).same u4
 have PB:=(PB.same s4).same u4
 have hl3:(x3.map V.ref).length=A.gates.length:=by rw [List.length_map,P3.length,List.length_map]
 have hl4:(x4.map V.ref).length=B.gates.length:=by rw [List.length_map,P4.length,List.length_map]
 have n13:p1≠p3:=fun e=>by
  have:=s3 _ _ (z_d (a:=p1) (o:=.lst (x1.map V.ref++x2.map V.ref)))
  rw [e,hp3] at this
  cases this
 refine ⟨p3,p4,_,_,rfl,rfl,P3'.1,P4.1,(by rw [hl3,hl4];exact small (by lia)),?_⟩
 have PG:=P3'.ext P4
 have PB:=PB.other (ys:=x3.map V.ref++x4.map V.ref) P3'.1 n13
 have n3:=(t2.trans s3).free hp3
 have t4:=x_c (t3.trans (s4.trans u4)) n3 (.lst (x3.map V.ref++x4.map V.ref))
 have oA:=t4 _ _ hA.o
 refine ⟨_,rfl,w,_,_,_,rfl,rfl,SqT.of (t4 _ _ hA.w),rfl,o,rfl,⟨_,SqL.of oA⟩,v_z (onI fun e=>F1 A B e) (SqL.of oA) (by rw [List.length_map];lia) (fun x hx N hN=>?_) fun p5 hp5=>?_⟩
 ·obtain ⟨e,he,rfl⟩:=List.mem_map.mp hx
  exact ⟨_,rfl,_,rfl,_,rfl,w,b,g,o,w',b',g',o',A,B,_,rfl,hA.same t4,hB.same t4,hN⟩
 rw [show (A.outs.map V.int).map (onI fun e=>F1 A B e)=(A.outs.map (F1 A B)).map V.int by rw [List.map_map,List.map_map];rfl]
 have u5:=z_f hp5 (.lst ((A.outs.map (F1 A B)).map V.int))
 have t5:=t4.trans u5
 have oB:=t5 _ _ hB.o
 refine ⟨_,rfl,.inl ⟨rfl,_,SqL.of z_d⟩,_,rfl,w',_,_,_,rfl,rfl,SqT.of (t5 _ _ hB.w),rfl,o',rfl,⟨_,SqL.of oB⟩,v_z (onI fun e=>F2 A B e) (SqL.of oB) (by rw [List.length_map];lia) (fun x hx N hN=>?_) fun p6 hp6=>?_⟩
 ·obtain ⟨e,he,rfl⟩:=List.mem_map.mp hx
  exact ⟨_,rfl,_,rfl,_,rfl,w,b,g,o,w',b',g',o',A,B,_,rfl,hA.same t5,hB.same t5,hi,hN⟩
 rw [show (B.outs.map V.int).map (onI fun e=>F2 A B e)=(B.outs.map (F2 A B)).map V.int by rw [List.map_map,List.map_map];rfl]
 have u6:=z_f hp6 (.lst ((B.outs.map (F2 A B)).map V.int))
 have h56:=u6 _ _ (z_d (a:=p5) (o:=.lst ((A.outs.map (F1 A B)).map V.int)))
 refine ⟨p5,p6,_,_,rfl,rfl,h56,z_d,(by rw [List.length_map,List.length_map,List.length_map,List.length_map];exact small (by lia)),?_⟩
 have n5:=t4.free hp5
 have n15:p1≠p5:=fun e=>by rw [<-e,PB.1] at hp5;cases hp5
 have n35:p3≠p5:=fun e=>by rw [<-e,PG.1] at hp5;cases hp5
 have PB:=((PB.same u5).same u6).other (ys:=(A.outs.map (F1 A B)).map V.int++(B.outs.map (F2 A B)).map V.int) h56 n15
 have PG:=((PG.same u5).same u6).other (ys:=(A.outs.map (F1 A B)).map V.int++(B.outs.map (F2 A B)).map V.int) h56 n35
 have t6:=x_c (t5.trans u6) n5 (.lst ((A.outs.map (F1 A B)).map V.int++(B.outs.map (F2 A B)).map V.int))
 refine ⟨_,rfl,w,_,_,_,rfl,rfl,SqT.of (t6 _ _ hA.w),rfl,_,rfl,_,rfl,_,rfl,zl4,fun p hp=>?_⟩
 have u7:=z_f hp (.tup [.int A.ins,.ref p1,.ref p3,.ref p5])
 refine q p p1 p3 p5 _ (t6.free hp) n1 n3 n5 n13 n15 n35 (t6.trans u7) ⟨z_d,⟨x1++x2,?_⟩,⟨x3++x4,?_⟩,?_⟩
 ·have:=PB.same u7
  rw [show (bes A B).boxes=A.boxes.map (fun p=>(p.1,F1 A B p.2))++B.boxes.map (fun p=>(p.1,F2 A B p.2)) by simp [bes,bx,two]]
  exact this
 ·have:=PG.same u7
  rw [show (bes A B).gates=A.gates.map (fun p=>(F1 A B p.1,F1 A B p.2))++B.gates.map (fun p=>(F2 A B p.1,F2 A B p.2)) by simp [bes,gt,two]]
  exact this
 ·have:=u7 _ _ (z_d (a:=p5) (o:=.lst ((A.outs.map (F1 A B)).map V.int++(B.outs.map (F2 A B)).map V.int)))
  rw [this,show (bes A B).outs=A.outs.map (F1 A B)++B.outs.map (F2 A B) by simp [bes,ot,two],List.map_append]
theorem i_e(T:Tx w K mg A)(G_Classes_least:FnOk P w K mg base CX0 1 A.a_Classes_least A.d_Classes_least ["self", "end"] (w_s A.c_Classes))(G_is_end:FnOk P w K mg base CX0 3 A.a_is_end A.d_is_end ["thing", "knots"] l_o):FnOk P w K mg base CX0 4 A.a_is_step A.d_is_step ["net", "classes", "thing"] (f_k A.c_Classes):=by
 refine T.F_is_step.ok sc_is_step (fun vs H Q E h=>?_) (fun cdv A' outer s H vs Q E hr h=>?_)
 ·obtain ⟨net,g,o,l,st,lt,rs,L,n,a,b,gs,R,ls,rfl,hS,q⟩:=h
  rfl
 obtain ⟨net,g,o,l,st,lt,rs,L,n,a,b,gs,R,ls,rfl,hS,q⟩:=h
 obtain ⟨kvsT,D_MOST_LEAVES,hkvs⟩:=T.D_MOST_LEAVES
 have hu64:=hr.units
 refine ⟨_,(z_e (x_j (PW.pt (r_p (v_g (y_w (z_m (x_t (T := "tuple")) rfl T.isinstance PyProof.Rows.boot_isinstance (z_a (pv 2) (z_a (u_c (v:=.ty "tuple") rfl T.tuple PyProof.Rows.boot_tuple rfl) z_b))) (fun _=>rfl))) (r_p (z_z g_j (z_m z_s rfl T.len PySem.boot_len (z_a (pv 2) z_b)) z_c (nomark _)) (s_f (v_g (y_w (z_m (x_t (T := "tuple")) rfl T.isinstance PyProof.Rows.boot_isinstance (z_a (z_l ix_tup0 (pv 2) z_c (fun _ _=>rfl)) (z_a (u_c (v:=.ty "tuple") rfl T.tuple PyProof.Rows.boot_tuple rfl) z_b))) (fun _=>rfl))))))) (z_h (z_y s_m)) y_c)
  (z_e (x_j (PW.pt (r_p (v_g (y_w (z_m (x_t (T := "str")) rfl T.isinstance PyProof.Rows.boot_isinstance (z_a (z_l ix_tup0 (pv 2) z_c (fun _ _=>rfl)) (z_a (u_c (v:=.ty "str") rfl T.str PyProof.Rows.boot_str rfl) z_b))) (fun _=>rfl))) (r_p (z_z (n_g D_MOST_LEAVES) (z_l ix_tup0 (pv 2) z_c (fun _ _=>rfl)) (g_m (v:=.ref A.a_MOST_LEAVES) rfl T.g_MOST_LEAVES rfl) rfl) (s_f (z_z op_gt (z_m z_s rfl T.len PySem.boot_len (z_a (z_l ix_tup0 (pv 2) z_c (fun _ _=>rfl)) z_b)) (z_l (ix_top D_MOST_LEAVES) (g_m (v:=.ref A.a_MOST_LEAVES) rfl T.g_MOST_LEAVES rfl) (z_l ix_tup0 (pv 2) z_c (fun _ _=>rfl)) (fun _ _=>rfl)) (nomark _)))))) (z_h (z_y s_m)) y_c)
  (z_e (z_v (i:=3) sc_is_step.nd rfl (Or.inr rfl) (z_k z_x (z_k z_x z_c (z_l ix_tup0 (pv 0) z_c (fun _ _=>rfl))) (z_m z_s rfl T.len PySem.boot_len (z_a (z_l ix_tup0 (pv 0) z_c (fun _ _=>rfl)) z_b))))
  (z_e (x_j (v_g (y_w (z_m o_c rfl T.all PyProof.Rows.boot_all (z_a (y_s [3] (fun _ _ h=>h) rfl (v_j (z_k op_catE (s_s f_f (pv 2) (s_c z_c) (s_c z_c)) (z_l ix_tup0 (pv 2) z_c (fun _ _=>rfl)))) (fun _ _ _ _=>y_a) (fun _ _ _ _=>(z_j G_is_end (hr.mono (by first | decide | lia)) rfl T.M_is_end T.F_is_end.kp T.B_is_end .nil pass0 (z_a (pv 0) (z_a (pv 1) z_b)))) rfl (show ∀ j∈([3]:List Nat),j<5 by decide) (show (["end", "knots"]:List Str).Nodup by decide +kernel)) z_b)) (fun _=>rfl))) (z_h (z_y s_m)) y_c)
  (z_e (u_m [1] sc_is_step.nd (i:=4) rfl (Or.inl rfl) (fun _ _ h=>h) rfl (v_j (z_l ix_tup0 (pv 2) z_c (fun _ _=>rfl))) (fun _ _ _ _=>y_a) (fun _ _ _ _=>(z_k y_n (x_o (pv 1) T.cl_Classes T.me_Classes_least G_Classes_least (hr.mono (by first | decide | lia)) T.B_Classes_least .nil pass0 (z_a (pv 0) z_b)) z_c)) rfl (show ∀ j∈([1]:List Nat),j<5 by decide) (show (["leaf", "classes"]:List Str).Nodup by decide +kernel) (by with_unfolding_all rfl))
  (z_h (z_y (r_o (u_k t_p z_c (pv 4) rfl) (n_h (u_k s_l (z_m j_h rfl T.len PySem.boot_len (z_a (x_b (i_w rfl hu64) rfl T.set PyProof.Rows.boot_set (z_a (pv 4) z_b)) z_b)) (z_m z_s rfl T.len PySem.boot_len (z_a (pv 4) z_b)) (nomark _))))))))))),?_⟩
 obtain ⟨⟨L0,hl0⟩,x0,ho0⟩:=hS.cls.lst
 have nol:o≠l:=hS.cls.ne
 have nst:st≠l:=w_m hS.st hl0
 have nlt:lt≠l:=w_m hS.lt hl0
 have l7:=hS.l7
 refine ⟨_,rfl,_,_,true,rfl,TyOf.tup hS.st,rfl,_,rfl,x_d rfl ?_⟩
 refine ⟨_,rfl,_,_,rfl,.inr ⟨_,SqT.of hS.st,rfl⟩,rfl,_,rfl,x_d (by show (!decide (V.int ((4:Nat):Int)=V.int 4))=false;decide) ?_⟩
 refine ⟨_,rfl,st,_,_,_,rfl,rfl,SqT.of hS.st,rfl,_,_,true,rfl,TyOf.tup hS.lt,rfl,_,rfl,x_d rfl ?_⟩
 refine ⟨_,rfl,st,_,_,_,rfl,rfl,SqT.of hS.st,rfl,_,_,true,rfl,TyOf.str _,rfl,_,rfl,x_d rfl ?_⟩
 refine ⟨_,rfl,st,_,_,_,rfl,rfl,SqT.of hS.st,rfl,_,rfl,rfl,_,rfl,x_d (by rw [hkvs];rfl) ?_⟩
 refine ⟨_,rfl,st,_,_,_,rfl,rfl,SqT.of hS.st,rfl,_,_,rfl,.inr ⟨_,SqT.of hS.lt,rfl⟩,_,rfl,st,_,_,_,rfl,rfl,SqT.of hS.st,rfl,_,_,rfl,rfl,hkvs,_,_,rfl,rfl,_,rfl,?_⟩
 rw [z_o]
 by_cases h6:ls.length<=6
 case neg =>
  have:=q H Ch.refl hS.cls
  rw [decide_eq_false (fun h=>h6 h.1)] at this
  exact v_i (decide_eq_true (by lia)) this
 refine x_d (decide_eq_false (by lia)) ?_
 refine ⟨_,rfl,net,_,_,_,rfl,rfl,SqT.of hS.net.p,rfl,_,_,rfl,rfl,_,rfl,net,_,_,_,rfl,rfl,SqT.of hS.net.p,rfl,_,_,rfl,.inl ⟨_,SqL.of hS.net.g.1,rfl⟩,_,_,rfl,rfl,?_⟩
 have hlen:=Paired.length hS.net.g.2
 unfold gI at hlen
 rw [List.length_map] at hlen
 refine ⟨_,rfl,_,rfl,_,rfl,st,_,rfl,hS.st,fun p1 H1 s1 e1=>⟨_,rfl,st,_,_,_,rfl,rfl,SqT.of (s1 _ _ hS.st),rfl,p1,lt,_,_,rfl,rfl,e1,s1 _ _ hS.lt,small (by rw [z_o];show 2+ls.length<=_;lia),fun p2 H2 s2 e2=>?_⟩⟩
 have e2':H2 p2=some (.tup (z_g (a::b::ls))):=e2
 have hall:∀ e∈a::b::ls,e<2*n:=fun e he=>by
  rcases List.mem_cons.mp he with rfl | he
  ·exact hS.ha
  rcases List.mem_cons.mp he with rfl | he
  ·exact hS.hb
  ·exact hS.hl e he
 have hn:=hS.hn
 refine ⟨p2,rfl,⟨_,SqT.of e2'⟩,u_z (xs:=z_g (a::b::ls)) (fun i ys J=>H2=J/\ys=List.replicate i (V.bl true)) ⟨rfl,rfl⟩ ?_ ?_ ?_ ?_⟩
 ·rintro i ys J _ ⟨rfl,_⟩
  exact SqT.of e2'
 ·rintro i ys J hi ⟨rfl,rfl⟩
  rw [List.length_replicate]
  rw [z_o] at hi
  exact y_b (by have:(a::b::ls).length=ls.length+2:=rfl;lia)
 ·rintro i v ys J hv ⟨rfl,rfl⟩
  obtain ⟨hi,rfl⟩:=w_b hv
  have hsi:(a::b::ls)[i]? = some ((a::b::ls).getD i 0):=by rw [List.getD_eq_getElem?_getD,List.getElem?_eq_getElem hi];rfl
  have he:=hall _ (List.mem_of_getElem? hsi)
  generalize (a::b::ls).getD i 0=e at he ⊢
  unfold tYes
  refine iteT ⟨_,rfl,_,rfl,_,_,rfl,rfl,?_⟩
  rw [List.replicate_succ']
  congr 2
  rw [List.length_map]
  simp only [Bool.and_eq_true,decide_eq_true_eq,V.bl.injEq]
  lia
 rintro ys J ⟨rfl,rfl⟩ pb hpb
 refine ⟨rfl,pb,List.replicate (z_g (a::b::ls)).length true,rfl,SqL.of (by rw [z_d,List.map_replicate]),_,rfl,x_d (by simp) ?_⟩
 have s3:=(s1.trans s2).trans (z_f hpb (.lst (List.replicate (z_g (a::b::ls)).length (V.bl true))))
 generalize upd H2 pb (.lst (List.replicate (z_g (a::b::ls)).length (V.bl true)))=H3 at s3 ⊢
 refine ⟨_,rfl,st,_,_,_,rfl,rfl,SqT.of (s3 _ _ hS.st),rfl,lt,rfl,⟨_,SqT.of (s3 _ _ hS.lt)⟩,u_z (xs:=z_g ls) (fun i ys J=>Ch l H J/\ClsAt A.c_Classes J o l n R/\ys=z_g ((ls.take i).map fun e=>R e/2)) ⟨s3.ch,hS.cls.same s3,rfl⟩ ?_ ?_ ?_ ?_⟩
 ·rintro i ys J _ ⟨cJ,_,_⟩
  exact SqT.of (cJ _ _ nlt hS.lt)
 ·rintro i ys J hi ⟨_,_,rfl⟩
  rw [z_o,List.length_map,List.length_take]
  exact y_b (by lia)
 ·rintro i v ys J hv ⟨cJ,CJ,rfl⟩
  obtain ⟨hi,rfl⟩:=w_b hv
  have hsi:ls[i]? = some (ls.getD i 0):=by rw [List.getD_eq_getElem?_getD,List.getElem?_eq_getElem hi];rfl
  have he:=hS.hl _ (List.mem_of_getElem? hsi)
  rw [y_u hsi]
  generalize ls.getD i 0=e at he ⊢
  obtain ⟨dx1,ho1⟩:=CJ.1
  unfold tYes
  refine iteT ⟨_,rfl,o,dx1,_,rfl,ho1,t_d (by decide),_,rfl,o,l,n,R,e,rfl,CJ,by lia,fun J2 ch2 C2=>⟨_,_,rfl,rfl,⟨by decide,by decide⟩,cJ.trans ch2,C2,?_⟩⟩
  rw [List.map_append,List.map_cons,List.map_nil,y_g]
  rfl
 rintro ys J ⟨cJ,CJ,rfl⟩ pk hpk
 rw [z_o,List.take_length]
 have t1:=z_f hpk (.lst (z_g (ls.map fun e=>R e/2)))
 have c1:=cJ.trans t1.ch
 have C1:=CJ.same t1
 have k1:=z_d (H:=J) (a:=pk) (o:=.lst (z_g (ls.map fun e=>R e/2)))
 dsimp only [gName]
 generalize upd J pk (.lst (z_g (ls.map fun e=>R e/2)))=J1 at t1 c1 C1 k1 ⊢
 refine ⟨_,rfl,pk,_,rfl,.inl (SqL.of k1),rfl,r_a _,_,rfl,?_⟩
 have hin:=q_w 0 (ls.map fun e=>R e/2)
 by_cases h0:0∈ls.map fun e=>R e/2
 ·refine x_d (by show (!inV (V.int ((0:Nat):Int)) _)=false;rw [hin,decide_eq_true h0];rfl) ?_
  have:=q J1 c1 C1
  rw [decide_eq_false (fun h=>by
   obtain ⟨e,he,e0⟩:=List.mem_map.mp h0
   exact h.2.1 e he e0)] at this
  exact this
 ·refine v_i (by show (!inV (V.int ((0:Nat):Int)) _)=true;rw [hin,decide_eq_false h0];rfl) ?_
  refine ⟨_,rfl,pk,(ls.map fun e=>R e/2).map (fun k:Nat=>(k:Int)),rfl,by rw [<-s_b];exact k1,by rw [List.length_map,List.length_map];lia,fun sa hsa=>?_⟩
  have t2:=z_f hsa (STO sa (ucI ((ls.map fun e=>R e/2).map (fun k:Nat=>(k:Int)))))
  refine ⟨sa,_,rfl,z_d,_,rfl,_,_,rfl,.inl ⟨_,SqL.of (t2 _ _ k1),rfl⟩,rfl,?_⟩
  have:=q _ (c1.trans t2.ch) (C1.same t2)
  have e:decide (V.int (ucI ((ls.map fun e=>R e/2).map (fun k:Nat=>(k:Int))):Nat)=V.int ((z_g (ls.map fun e=>R e/2)).length:Nat))=decide (ls.length<=6/\Dst R ls):=by
   have hu:=ucI_iff (ks:=ls.map fun e=>R e/2)
   rw [z_o]
   refine decide_eq_decide.mpr ⟨fun h=>?_,fun h=>?_⟩
   ·injection h with h
    exact ⟨h6,fun e he e0=>h0 (List.mem_map.mpr ⟨e,he,e0⟩),hu.mp (by lia)⟩
   ·rw [hu.mpr h.2.2]
  rw [e]
  exact this
theorem k_f(T:Tx w K mg A):FnOk P w K mg base CX0 1 A.a_below A.d_below ["net", "end"] k_t:=by
 refine T.F_below.ok sc_below (fun vs H Q E h=>?_) (fun cdv A' outer s H vs Q E hr h=>?_)
 ·obtain ⟨net,g,rs,L,gs,e,rfl,hN,hL,hn,h1000,q⟩:=h
  rfl
 obtain ⟨net,g,rs,L,gs,e,rfl,hN,hL,hn,h1000,q⟩:=h
 refine ⟨_,(z_h (z_y (s_r (z_z s_l (z_k x_m (pv 1) z_c) z_c (nomark _)) (y_e (z_a (z_k v_n (pv 1) z_c) z_b)) (z_l ix_list0 (z_l ix_tup0 (pv 0) z_c (fun _ _=>rfl)) (z_k v_n (z_k v_n (z_k y_n (pv 1) z_c) (z_l ix_tup0 (pv 0) z_c (fun _ _=>rfl))) z_c) (fun _ _=>rfl))))),?_⟩
 by_cases ho:e%2=1
 ·refine ⟨_,rfl,_,_,rfl,rfl,(by show (0:Int)<2;decide),rfl,_,rfl,?_⟩
  refine v_i (decide_eq_true (by show V.int ((e:Int)%2)=V.int 1;congr 1;lia)) ?_
  refine ⟨_,rfl,_,_,rfl,rfl,zl1,fun t ht=>q t _ (z_f ht _) ?_⟩
  rw [z_d]
  unfold belN
  rw [if_pos ho]
  show some (HO.tup [V.int ((e:Int)-1)])=some (HO.tup [V.int ((e-1:Nat):Int)])
  rw [show (e:Int)-1=((e-1:Nat):Int) by lia]
 ·refine ⟨_,rfl,_,_,rfl,rfl,(by show (0:Int)<2;decide),rfl,_,rfl,?_⟩
  refine x_d (decide_eq_false (by show ¬V.int ((e:Int)%2)=V.int 1;intro h;injection h with h;lia)) ?_
  have hlen:=Paired.length hN.g.2
  unfold gI at hlen
  rw [List.length_map] at hlen
  have hk:e/2-L-1<rs.length:=by lia
  have hr:rs[e/2-L-1]? = some rs[e/2-L-1]:=List.getElem?_eq_getElem hk
  obtain ⟨p',hp',hrt⟩:=y_v hN.g.2 hr
  unfold gI at hp'
  rw [List.getElem?_map] at hp'
  obtain ⟨p,hp,rfl⟩:=Option.map_eq_some_iff.mp hp'
  have hat:atI (rs.map V.ref) ((e:Int)/2-(L:Int)-1)=some (.ref rs[e/2-L-1]):=by
   rw [show (e:Int)/2-(L:Int)-1=((e/2-L-1:Nat):Int) by lia]
   exact v_x (by rw [List.getElem?_map,hr];rfl)
  refine ⟨_,rfl,net,_,_,_,rfl,rfl,SqT.of hN.p,rfl,_,rfl,_,_,rfl,rfl,⟨by decide,by decide⟩,_,rfl,net,_,_,_,rfl,rfl,SqT.of hN.p,rfl,_,_,rfl,rfl,_,_,rfl,rfl,g,_,_,_,rfl,rfl,SqL.of hN.g.1,hat,q _ H (Same.refl H) ?_⟩
  rw [hrt]
  unfold belN
  rw [if_neg ho,hp]
  rfl
theorem m_y(T:Tx w K mg A)(G_Classes_least:FnOk P w K mg base CX0 1 A.a_Classes_least A.d_Classes_least ["self", "end"] (w_s A.c_Classes))(G_below:FnOk P w K mg base CX0 1 A.a_below A.d_below ["net", "end"] k_t):FnOk P w K mg base CX0 2 A.a_found_of A.d_found_of ["net", "classes", "given", "ends", "turned", "both"] (k_u A.c_Classes P w K mg base):=by
 refine T.F_found_of.ok sc_found_of (fun vs H Q E h=>?_) (fun cdv A' outer s H vs Q E hr h=>?_)
 ·obtain ⟨net,g,o,l,gd,et,f,ab,c,rs,L,n,hi,a,b,gs,R,kvs,gv,fo,ofb,qual,fdt,fdb,rfl,hN,hG,hn,h30,⟨S0,hS0l,ha0,hb0,hS0⟩,hC,hgd,hgv,het,ha,hb,ngl,hF,q⟩:=h
  rfl
 obtain ⟨net,g,o,l,gd,et,f,ab,c,rs,L,n,hi,a,b,gs,R,kvs,gv,fo,ofb,qual,fdt,fdb,rfl,hN,hG,hn,h30,⟨S0,hS0l,ha0,hb0,hS0⟩,hC,hgd,hgv,het,ha,hb,ngl,hF,q⟩:=h
 have hu:=hu_of hr
 refine ⟨_,(z_e (z_v (i:=6) sc_found_of.nd rfl (Or.inr rfl) pe_dnewK)
  (z_e (z_v (i:=7) sc_found_of.nd rfl (Or.inl rfl) (x_i z_b))
  (z_e (z_v (i:=8) sc_found_of.nd rfl (Or.inl rfl) (x_b v_y rfl T.list PyProof.Rows.boot_list (z_a (pv 3) z_b)))
  (z_e (k_k PassesOwn.never (z_z op_gt (z_m z_s rfl T.len PySem.boot_len (z_a (pv 8) z_b)) z_c (nomark _))
    (z_e (z_v (i:=9) sc_found_of.nd rfl (Or.inl rfl) (pe_bm00 PySem.F.plainAttrs_list PySem.F.slot_list_pop PySem.F.type_list_pop mt_pop (pv 8)))
  (z_e (x_j (pt_cmp (pc_din hu (pv 9) (pv 6))) (z_h l_i) y_c)
  (z_e (p_k hu (pv 6) (pv 9) (pe_dget1 hu (pv 2) (x_o (pv 1) T.cl_Classes T.me_Classes_least G_Classes_least (hr.mono (by first | decide | lia)) T.B_Classes_least .nil pass0 (z_a (pv 9) z_b)) ⟨rfl,rfl,rfl,rfl⟩) rfl)
  (z_h (x_j (PW.pt (pw_and (z_z k_g (l_f hu (pv 6) (pv 9) (fun _ _=>rfl)) u_l (nomark _)) (g_v (z_z op_gt (z_k y_n (pv 9) z_c) (z_l ix_tup0 (pv 0) z_c (fun _ _=>rfl)) (nomark _))))) (z_e (y_l (w_u PySem.F.plainAttrs_list PySem.F.slot_list_append PySem.F.type_list_append x_a (pv 7) (z_a (pv 9) z_b)))
  (z_h (y_l (w_u PySem.F.plainAttrs_list PySem.F.slot_list_extend PySem.F.type_list_extend j_y (pv 8) (z_a (z_j G_below (hr.mono (by first | decide | lia)) rfl T.M_below T.F_below.kp T.B_below .nil pass0 (z_a (pv 0) (z_a (pv 9) z_b))) z_b))))) y_c))))))
  (z_e (x_q PassesOwn.never rfl (y_d (z_m j_i rfl T.sorted PyProof.Rows.boot_sorted (z_a (pv 7) z_b))) (z_t (i:=9) sc_found_of.nd rfl (Or.inl rfl))
    (z_e (u_m [6] sc_found_of.nd (i:=10) rfl (Or.inl rfl) (fun _ _ h=>h) rfl (v_j (z_j G_below (hr.mono (by first | decide | lia)) rfl T.M_below T.F_below.kp T.B_below .nil pass0 (z_a (pv 0) (z_a (pv 9) z_b)))) (fun _ _ _ _=>y_a) (fun _ _ _ _=>(l_f hu (pv 1) (pv 0) (fun _ _=>rfl))) rfl (show ∀ j∈([6]:List Nat),j<11 by decide) (show (["lesser", "found"]:List Str).Nodup by decide +kernel) (by with_unfolding_all rfl))
  (z_h (p_k hu (pv 6) (pv 9) (s_r (z_z s_l (z_k x_m (pv 9) z_c) z_c (nomark _)) (k_i (i:=4) rfl (Or.inl rfl) (z_a (z_l ix_list0 (pv 10) z_c (fun _ _=>rfl)) z_b)) (k_i (i:=5) rfl (Or.inl rfl) (z_a (z_l ix_list0 (pv 10) z_c (fun _ _=>rfl)) (z_a (z_l ix_list0 (pv 10) z_c (fun _ _=>rfl)) z_b)))) rfl))))
  (z_h (z_y (y_s [6] (fun _ _ h=>h) rfl (v_j (pv 3)) (fun _ _ _ _=>y_a) (fun _ _ _ _=>(l_f hu (pv 1) (pv 0) (fun _ _=>rfl))) rfl (show ∀ j∈([6]:List Nat),j<11 by decide) (show (["end", "found"]:List Str).Nodup by decide +kernel))))))))),?_⟩
 obtain ⟨⟨L0,hl0⟩,x0,ho0⟩:=hC.lst
 have netl:et≠l:=w_m het hl0
 have ngdl:gd≠l:=fun e=>by rw [e,hl0] at hgd;cases hgd
 have nol:o≠l:=hC.ne
 intro fd hfd
 have s1:=z_f hfd (.dK [])
 have f1:=z_d (H:=H) (a:=fd) (o:=.dK [])
 dsimp only [gName]
 generalize upd H fd (.dK [])=H1 at s1 f1 ⊢
 refine ⟨zl0,fun pg hpg=>?_⟩
 have s2:=s1.trans (z_f hpg (.lst []))
 have f2:=(z_f hpg (.lst [])) _ _ f1
 have g2:=z_d (H:=H1) (a:=pg) (o:=.lst [])
 have hpgH:=s1.free hpg
 have nfg:fd≠pg:=z_i f1 hpg
 dsimp only [gName]
 generalize upd H1 pg (.lst [])=H2 at s2 f2 g2 ⊢
 refine ⟨_,rfl,et,_,rfl,.inr (SqT.of (s2 _ _ het)),fun pw hpw=>?_⟩
 have s3:=s2.trans (z_f hpw (.lst [.int (a:Int),.int (b:Int)]))
 have f3:=(z_f hpw (.lst [.int (a:Int),.int (b:Int)])) _ _ f2
 have g3:=(z_f hpw (.lst [.int (a:Int),.int (b:Int)])) _ _ g2
 have w3:=z_d (H:=H2) (a:=pw) (o:=.lst [.int (a:Int),.int (b:Int)])
 have hpwH:=s2.free hpw
 have nfw:fd≠pw:=z_i f2 hpw
 have ngw:pg≠pw:=z_i g2 hpw
 dsimp only [gName]
 generalize upd H2 pw (.lst [.int (a:Int),.int (b:Int)])=H3 at s3 f3 g3 w3 ⊢
 clear s1 f1 s2 f2 g2 hpg hpw
 have nfo:o≠fd:=z_i ho0 hfd
 have ngo:o≠pg:=z_i ho0 hpgH
 have nwo:o≠pw:=z_i ho0 hpwH
 have nfl:l≠fd:=z_i hl0 hfd
 have ngl':l≠pg:=z_i hl0 hpgH
 have nwl:l≠pw:=z_i hl0 hpwH
 refine ⟨fun m σ J=>∃ (x9:Option V) (S gts wt:List Nat) (kvF:List (Key×V)),σ=[some (.ref net),some (.ref o),some (.ref gd),some (.ref et),some (.ref f),some (.ref ab),some (.ref fd),some (.ref pg),some (.ref pw),x9,none]/\Ch l H J/\ClsAt A.c_Classes J o l n R/\J fd=some (.dK kvF)/\FdI kvF S (fun e=>gv (R e)) S.length/\J pg=some (.lst (z_g gts))/\J pw=some (.lst (z_g wt))/\FndI (fun e=>gv (R e)) L a b S0 gs S gts wt/\m+3*S.length=200+wt.length/\gts.length<=S.length,⟨202,_,[],[],[a,b],[],rfl,s3.ch,hC.same s3,f3,FdI.nil,g3,w3,⟨.nil,(fun _ h=>nomatch h),fun e he=>?_,.nil,fun e=>?_,(fun _ h=>nomatch h),.inr List.mem_cons_self,.inr (List.mem_cons_of_mem _ List.mem_cons_self),Nat.le_refl _⟩,rfl,Nat.le_refl _⟩,?_⟩
 ·simp only [List.mem_cons,List.not_mem_nil,or_false] at he
  rcases he with rfl | rfl<;>assumption
 ·constructor
  ·exact fun h=>nomatch h
  ·exact fun h=>nomatch h.1
 rintro m σ J ⟨x9,S,gts,wt,kvF,rfl,cJ,hCJ,fJ,hFd,gJ,wJ,hI,hm,hgl⟩
 have hS60:=f_n hI.nd hI.hs
 have hwl:=hI.wl
 refine ⟨_,rfl,_,_,rfl,.inl ⟨_,SqL.of wJ,rfl⟩,_,_,rfl,rfl,_,rfl,?_⟩
 by_cases hw0:wt=[]
 ·refine x_d (decide_eq_false (by rw [hw0];decide)) ?_
  subst hw0
  have hin:∀ d,d∈S\/d∈([]:List Nat)->d∈S:=fun d h=>h.elim id fun h=>nomatch h
  have hga:∀ e∈gts,e∈S/\gv (R e)=none/\L<e/2:=fun e h=>(hI.gi e).mp h
  have hV0:∀ d∈S,(fun e=>gv (R e)) d=(if d∈gts/\d∉([]:List Nat) then none else gvW (fun e=>gv (R e)) L gs hi d):=fun d hd=>by
   by_cases c:d∈gts
   ·rw [if_pos ⟨c,List.not_mem_nil⟩]
    exact (hga d c).2.1
   ·rw [if_neg (fun h=>c h.1)]
    cases hgd':gv (R d) with
    | some w=>show gv (R d)=_;rw [hgd'];exact (h_j (giv:=fun e=>gv (R e)) hG (show (fun e=>gv (R e)) d=some w from hgd')).symm
    | none =>
     show gv (R d)=_
     rw [hgd']
     refine (gvW_low (giv:=fun e=>gv (R e)) (e:=d) hG (show (fun e=>gv (R e)) d=none from hgd') fun hl=>c ((hI.gi d).mpr ⟨hd,hgd',hl⟩)).symm
  dsimp only
  refine ⟨_,rfl,pg,gts.map (fun k:Nat=>(k:Int)),rfl,(by rw [<-s_b];exact gJ),(by rw [List.length_map];lia),fun ps ns' hps hpm hpw=>?_⟩
  obtain ⟨sg,rfl,psg,hsort⟩:=sort_nat hpm hpw
  rw [<-s_b]
  have ndg:=psg.nodup_iff.mpr hI.gn
  have lsg:=psg.length_eq
  have hpsH:H ps=none:=by
   cases e:H ps with
   | none=>rfl
   | some x =>
    by_cases c:ps=l
    ·rw [c] at hps
     obtain ⟨⟨L1,hl1⟩,_⟩:=hCJ.lst
     rw [hl1] at hps
     cases hps
    ·rw [cJ _ _ c e] at hps
     cases hps
  have v1:=z_f hps (.lst (z_g sg))
  have c1:=cJ.trans v1.ch
  have p1:=z_d (H:=J) (a:=ps) (o:=.lst (z_g sg))
  have f1:=v1 _ _ fJ
  have C1:=hCJ.same v1
  have nfp:ps≠fd:=(z_i fJ hps).symm
  generalize upd J ps (.lst (z_g sg))=J1 at v1 c1 p1 f1 C1 ⊢
  have npl:ps≠l:=fun e=>by rw [e,hl0] at hpsH;cases hpsH
  refine ⟨ps,rfl,⟨_,SqL.of p1⟩,t_k (xs:=z_g sg) (fun i σ J'=>∃ (y9 y10:Option V) (kvF:List (Key×V)),σ=[some (.ref net),some (.ref o),some (.ref gd),some (.ref et),some (.ref f),some (.ref ab),some (.ref fd),some (.ref pg),some (.ref pw),y9,y10]/\Ch l H J'/\ClsAt A.c_Classes J' o l n R/\J' ps=some (.lst (z_g sg))/\J' fd=some (.dK kvF)/\FdI kvF S (fun d=>if d∈gts/\d∉sg.take i then none else gvW (fun e=>gv (R e)) L gs hi d) (S.length+i)) ⟨_,_,kvF,rfl,c1,C1,p1,f1,hFd.congr hV0⟩ ?_ ?_ ?_⟩
  ·rintro i σ J' _ ⟨_,_,_,_,_,_,h,_⟩
   exact SqL.of h
  ·rintro i v σ J2 hv ⟨y9,y10,kv2,rfl,c2,C2,p2,f2,hF2⟩
   obtain ⟨hi',rfl⟩:=w_b hv
   have hsi:sg[i]? = some (sg.getD i 0):=by rw [List.getD_eq_getElem?_getD,List.getElem?_eq_getElem hi'];rfl
   generalize sg.getD i 0=e at hsi
   have heg:e∈gts:=psg.mem_iff.mp (List.mem_of_getElem? hsi)
   obtain ⟨heS,hegv,hel⟩:=hga e heg
   have he2:=(hS0 e (hI.hs e heS)).1
   obtain ⟨hb1,hb2⟩:=i_s hG hn he2 hel
   have hnot:=take_not ndg hsi
   have hcl:∀ d∈belN L gs e,d∈S/\(if d∈gts/\d∉sg.take i then none else gvW (fun e=>gv (R e)) L gs hi d)=gvW (fun e=>gv (R e)) L gs hi d:=fun d hd=>by
    refine ⟨hin d (hI.cl e heg d hd),if_neg fun h=>h.2 ?_⟩
    exact p_r hsort hsi (psg.mem_iff.mpr h.1) (hb1 d hd)
   have N2:=hN.chl c2 ngl hl0
   refine ⟨_,rfl,_,rfl,net,g,rs,L,gs,e,rfl,N2,hel,by lia,by lia,fun t J3 s3' ht=>?_⟩
   have f3':=s3' _ _ f2
   refine ⟨t,rfl,⟨_,SqT.of ht⟩,u_z (xs:=z_g (belN L gs e)) (fun j ys J'=>J3=J'/\ys=((belN L gs e).take j).map fun d=>oV (gvW (fun e=>gv (R e)) L gs hi d)) ⟨rfl,rfl⟩ ?_ ?_ ?_ ?_⟩
   ·rintro j ys J' _ ⟨rfl,_⟩
    exact SqT.of ht
   ·rintro j ys J' hj ⟨rfl,rfl⟩
    rw [List.length_map,List.length_take]
    exact y_b (by lia)
   ·rintro j y ys J' hy ⟨rfl,rfl⟩
    obtain ⟨hj,rfl⟩:=w_b hy
    have hdj:(belN L gs e)[j]? = some ((belN L gs e).getD j 0):=by rw [List.getD_eq_getElem?_getD,List.getElem?_eq_getElem hj];rfl
    generalize (belN L gs e).getD j 0=d at hdj
    obtain ⟨hdS,hdv⟩:=hcl d (List.mem_of_getElem? hdj)
    have hdg:=DGet.k (k:=.inl (d:Int)) f3'
    rw [hF2.2 d,if_pos hdS] at hdg
    dsimp only at hdg
    rw [hdv] at hdg
    unfold tYes
    refine iteT ⟨_,rfl,_,rfl,fd,_,rfl,hdg,rfl,?_⟩
    rw [y_u hdj,List.map_append]
    rfl
   rintro ys J' ⟨rfl,rfl⟩ pt hpt
   rw [z_o,List.take_length]
   have v4:=s3'.trans (z_f hpt (.lst ((belN L gs e).map fun d=>oV (gvW (fun e=>gv (R e)) L gs hi d))))
   have t4:=z_d (H:=J3) (a:=pt) (o:=.lst ((belN L gs e).map fun d=>oV (gvW (fun e=>gv (R e)) L gs hi d)))
   dsimp only [gName]
   generalize upd J3 pt (.lst ((belN L gs e).map fun d=>oV (gvW (fun e=>gv (R e)) L gs hi d)))=J4 at v4 t4 ⊢
   have f4:=v4 _ _ f2
   have c4:=c2.trans v4.ch
   have C4:=C2.same v4
   have p4:=v4 _ _ p2
   have kl:=hF2.1
   obtain ⟨uf,hff⟩:=hF.ft
   have nfl2:f≠l:=fun e=>by rw [e,hl0] at hff;cases hff
   have ff4:=c4 _ _ nfl2 hff
   have cd4:IsCd J4 c qual:=by
    obtain ⟨oc,u,ws,tq,e1,e2⟩:=hF.cd
    exact ⟨oc,u,ws,tq,c4 _ _ (fun e=>by rw [e,hl0] at e1;cases e1) e1,e2⟩
   have fin:∀ v,v=oV (gvW (fun e=>gv (R e)) L gs hi e)->∃ (y9 y10:Option V) (kvF:List (Key×V)),[some (.ref net),some (.ref o),some (.ref gd),some (.ref et),some (.ref f),some (.ref ab),some (.ref fd),some (.ref pg),some (.ref pw),some (.int (e:Int)),some (.ref pt)]=[some (.ref net),some (.ref o),some (.ref gd),some (.ref et),some (.ref f),some (.ref ab),some (.ref fd),some (.ref pg),some (.ref pw),y9,y10]/\Ch l H (upd J4 fd (.dK (putK kv2 (.inl (e:Int)) v)))/\ClsAt A.c_Classes (upd J4 fd (.dK (putK kv2 (.inl (e:Int)) v))) o l n R/\(upd J4 fd (.dK (putK kv2 (.inl (e:Int)) v))) ps=some (.lst (z_g sg))/\(upd J4 fd (.dK (putK kv2 (.inl (e:Int)) v))) fd=some (.dK kvF)/\FdI kvF S (fun d=>if d∈gts/\d∉sg.take (i+1) then none else gvW (fun e=>gv (R e)) L gs hi d) (S.length+(i+1)):=fun v hv=>by
    subst hv
    refine ⟨_,_,_,rfl,c4.fr hfd,C4.up nfo nfl _,by rw [z_r nfp];exact p4,z_d,?_⟩
    have hFe:(if e∈gts/\e∉sg.take (i+1) then none else gvW (fun e=>gv (R e)) L gs hi e)=gvW (fun e=>gv (R e)) L gs hi e:=if_neg fun h=>h.2 (by rw [y_u hsi];exact List.mem_append_right _ (List.mem_singleton.mpr rfl))
    have:=hF2.set (F':=fun d=>if d∈gts/\d∉sg.take (i+1) then none else gvW (fun e=>gv (R e)) L gs hi d) heS fun d hd hde=>by
     show (if d∈gts/\d∉sg.take i then none else gvW (fun e=>gv (R e)) L gs hi d)=if d∈gts/\d∉sg.take (i+1) then none else gvW (fun e=>gv (R e)) L gs hi d
     have hiff:d∉sg.take (i+1)↔d∉sg.take i:=by
      rw [y_u hsi,List.mem_append,List.mem_singleton]
      exact ⟨fun h q=>h (.inl q),fun h q=>q.elim h hde⟩
     simp only [hiff]
    simp only [hFe] at this
    exact this
   refine ⟨_,rfl,_,_,rfl,rfl,(by show (0:Int)<2;decide),rfl,_,rfl,?_⟩
   by_cases hodd:e%2=1
   ·refine v_i (decide_eq_true (by show V.int ((e:Int)%2)=V.int 1;congr 1;lia)) ?_
    have eb:belN L gs e=[e-1]:=by unfold belN;rw [if_pos hodd]
    rw [eb] at t4
    refine ⟨f,rfl,fo,.inr ⟨uf,ff4⟩,⟨_,hF.dt⟩,_,rfl,pt,_,_,_,rfl,rfl,SqL.of t4,rfl,.inr ⟨uf,ff4⟩,1,fdt,_,_,hF.Ft,hr.mono (by first | decide | lia),hF.Bt,_,uf,rfl,ff4,cd4,?_⟩
    refine ⟨_,rfl,_,rfl,fd,_,rfl,DPut.k (k:=.inl (e:Int)) f4 (y_b (by lia)),fin _ ?_⟩
    rw [gvW_odd (giv:=fun e=>gv (R e)) (e:=e) hG hegv hel hodd]
   ·refine x_d (decide_eq_false (by show ¬V.int ((e:Int)%2)=V.int 1;intro h;injection h with h;lia)) ?_
    cases hp:gs[e/2-L-1]? with
    | none=>exact absurd (List.getElem?_eq_none_iff.mp hp) (by lia)
    | some p =>
    have eb:belN L gs e=[p.1,p.2]:=by unfold belN;rw [if_neg hodd,hp]
    rw [eb] at t4
    refine ⟨ab,rfl,ofb,.inl hF.lb,⟨_,hF.db⟩,_,rfl,pt,_,_,_,rfl,rfl,SqL.of t4,rfl,_,rfl,pt,_,_,_,rfl,rfl,SqL.of t4,rfl,.inl hF.lb,1,fdb,_,_,hF.Fb,hr.mono (by first | decide | lia),hF.Bb,_,_,rfl,?_⟩
    refine ⟨_,rfl,_,rfl,fd,_,rfl,DPut.k (k:=.inl (e:Int)) f4 (y_b (by lia)),fin _ ?_⟩
    rw [q_u (giv:=fun e=>gv (R e)) (e:=e) hG hegv hel hodd hp]
  rintro σ J2 ⟨y9,y10,kv2,rfl,c2,C2,p2,f2,hF2⟩
  rw [z_o,List.take_length] at hF2
  have e2:=c2 _ _ netl het
  have hval:∀ d∈S,valV kv2 (.inl (d:Int))=some (oV (gvW (fun e=>gv (R e)) L gs hi d)):=fun d hd=>by
   rw [hF2.2 d,if_pos hd]
   have:(if d∈gts/\d∉sg then none else gvW (fun e=>gv (R e)) L gs hi d)=gvW (fun e=>gv (R e)) L gs hi d:=if_neg fun h=>h.2 (psg.mem_iff.mpr h.1)
   dsimp only
   rw [this]
  refine ⟨_,rfl,et,rfl,⟨_,SqT.of e2⟩,u_z (xs:=[.int (a:Int),.int (b:Int)]) (fun j ys J'=>J2=J'/\ys=[oV (gvW (fun e=>gv (R e)) L gs hi a),oV (gvW (fun e=>gv (R e)) L gs hi b)].take j) ⟨rfl,rfl⟩ ?_ ?_ ?_ ?_⟩
  ·rintro j ys J' _ ⟨rfl,_⟩
   exact SqT.of e2
  ·rintro j ys J' hj ⟨rfl,rfl⟩
   rw [List.length_take]
   exact y_b (by have:j<2:=hj;lia)
  ·rintro j y ys J' hy ⟨rfl,rfl⟩
   have hj:j<2:=(List.getElem?_eq_some_iff.mp hy).1
   unfold tYes
   have h01:j=0\/j=1:=by lia
   rcases h01 with rfl | rfl
   ·cases hy
    have hdg:=DGet.k (k:=.inl (a:Int)) f2
    rw [hval a (hin a hI.ca)] at hdg
    exact iteT ⟨_,rfl,_,rfl,fd,_,rfl,hdg,rfl,rfl⟩
   ·cases hy
    have hdg:=DGet.k (k:=.inl (b:Int)) f2
    rw [hval b (hin b hI.cb)] at hdg
    exact iteT ⟨_,rfl,_,rfl,fd,_,rfl,hdg,rfl,rfl⟩
  rintro ys J' ⟨rfl,rfl⟩ p hp
  have hpH:H p=none:=by
   cases e:H p with
   | none=>rfl
   | some x =>
    by_cases c:p=l
    ·rw [c] at hp
     obtain ⟨⟨L1,hl1⟩,_⟩:=C2.lst
     rw [hl1] at hp
     cases hp
    ·rw [c2 _ _ c e] at hp
     cases hp
  exact q p _ hpH (c2.trans (z_f hp _).ch) (C2.same (z_f hp _)) z_d
 ·obtain ⟨wt',e,rfl⟩:=last_ex hw0
  refine v_i (decide_eq_true (by rw [z_o,List.length_append];show (0:Int)<((wt'.length+1:Nat):Int);lia)) ?_
  have he0:=hI.hw e (List.mem_append_right _ (List.mem_singleton.mpr rfl))
  have he:=(hS0 e he0).1
  have hpop:∀ (A:List V) (x:V),(A++[x])[(A++[x]).length-1]? = some x:=fun A x=>by rw [List.length_append];simp
  rw [y_g] at wJ
  have hmW:wt'.length+1<=2+2*S.length:=by rw [List.length_append] at hwl;exact hwl
  rw [List.length_append] at hm
  have hm':m+3*S.length=200+(wt'.length+1):=hm
  refine ⟨fun σ' J'=>∃ m',m'<m/\∃ (x9:Option V) (S gts wt:List Nat) (kvF:List (Key×V)),σ'=[some (.ref net),some (.ref o),some (.ref gd),some (.ref et),some (.ref f),some (.ref ab),some (.ref fd),some (.ref pg),some (.ref pw),x9,none]/\Ch l H J'/\ClsAt A.c_Classes J' o l n R/\J' fd=some (.dK kvF)/\FdI kvF S (fun e=>gv (R e)) S.length/\J' pg=some (.lst (z_g gts))/\J' pw=some (.lst (z_g wt))/\FndI (fun e=>gv (R e)) L a b S0 gs S gts wt/\m'+3*S.length=200+wt.length/\gts.length<=S.length,fun _ _ h=>h,?_⟩
  refine ⟨_,rfl,.inl ⟨rfl,_,SqL.of wJ⟩,pw,_,_,rfl,rfl,wJ,hpop _ _,?_⟩
  rw [List.dropLast_concat]
  have c1:=cJ.fr (o:=.lst (z_g wt')) hpwH
  have C1:=hCJ.up nwo nwl (.lst (z_g wt'))
  have w1:=z_d (H:=J) (a:=pw) (o:=.lst (z_g wt'))
  have f1:(upd J pw (.lst (z_g wt'))) fd=some (.dK kvF):=by rw [z_r nfw];exact fJ
  have g1:(upd J pw (.lst (z_g wt'))) pg=some (.lst (z_g gts)):=by rw [z_r ngw];exact gJ
  dsimp only [gName]
  generalize upd J pw (.lst (z_g wt'))=J1 at c1 C1 w1 f1 g1 ⊢
  have hdg:=DGet.k (k:=.inl (e:Int)) f1
  rw [hFd.2 e] at hdg
  by_cases heS:e∈S
  ·rw [if_pos heS] at hdg
   refine ⟨_,rfl,_,rfl,fd,_,rfl,hdg,_,rfl,?_⟩
   refine iteT ?_
   exact ⟨m-1,by lia,_,S,gts,wt',kvF,rfl,c1,C1,f1,hFd,g1,w1,hI.old heS,by lia,hgl⟩
  ·rw [if_neg heS] at hdg
   refine ⟨_,rfl,_,rfl,fd,_,rfl,hdg,_,rfl,?_⟩
   refine iteF ?_
   have d1:J1 gd=some (.dK kvs):=c1 _ _ ngdl hgd
   obtain ⟨dx1,ho1⟩:=C1.1
   refine ⟨_,rfl,gd,rfl,.inl ⟨kvs,.inl d1⟩,_,rfl,o,dx1,_,rfl,ho1,t_d (by decide),_,rfl,o,l,n,R,e,rfl,C1,by lia,fun J2 ch2 C2=>?_⟩
   have d2:=ch2 _ _ ngdl d1
   have f2:=ch2 _ _ nfl.symm f1
   have g2:=ch2 _ _ ngl'.symm g1
   have w2:=ch2 _ _ nwl.symm w1
   have c2:=c1.trans ch2
   have hdg2:=DGet.k (k:=.inl ((R e:Nat):Int)) d2
   rw [hgv (R e)] at hdg2
   refine ⟨_,hdg2,?_⟩
   dsimp only
   rw [oV_get]
   have kl:=hFd.1
   refine ⟨_,rfl,_,rfl,fd,_,rfl,DPut.k (k:=.inl (e:Int)) f2 (y_b (by lia)),?_⟩
   have hF3:FdI (putK kvF (.inl (e:Int)) (oV (gv (R e)))) (S++[e]) (fun e=>gv (R e)) (S++[e]).length:=by
    rw [List.length_append]
    exact hFd.new (e:=e)
   have c3:=c2.fr (o:=.dK (putK kvF (.inl (e:Int)) (oV (gv (R e))))) hfd
   have C3:=C2.up nfo nfl (.dK (putK kvF (.inl (e:Int)) (oV (gv (R e)))))
   have f3:=z_d (H:=J2) (a:=fd) (o:=.dK (putK kvF (.inl (e:Int)) (oV (gv (R e)))))
   have g3:(upd J2 fd (.dK (putK kvF (.inl (e:Int)) (oV (gv (R e)))))) pg=some (.lst (z_g gts)):=by rw [z_r nfg.symm];exact g2
   have w3:(upd J2 fd (.dK (putK kvF (.inl (e:Int)) (oV (gv (R e)))))) pw=some (.lst (z_g wt')):=by rw [z_r nfw.symm];exact w2
   generalize upd J2 fd (.dK (putK kvF (.inl (e:Int)) (oV (gv (R e)))))=J3 at c3 C3 f3 g3 w3 ⊢
   have hdg3:=DGet.k (k:=.inl (e:Int)) f3
   rw [hF3.2 e,if_pos (List.mem_append_right _ (List.mem_singleton.mpr rfl))] at hdg3
   have lS:(S++[e]).length=S.length+1:=by rw [List.length_append];rfl
   refine ⟨_,rfl,_,rfl,fd,_,rfl,hdg3,rfl,_,rfl,?_⟩
   cases hge:gv (R e) with
   | some w =>
    refine x_d (decide_eq_false (fun h=>by dsimp only at h;rw [hge] at h;cases h)) (iteF ?_)
    exact ⟨m-4,by lia,_,S++[e],gts,wt',_,rfl,c3,C3,f3,hF3,g3,w3,hI.plain heS (fun h=>by rw [hge] at h;cases h.1),by lia,by lia⟩
   | none =>
    refine v_i (decide_eq_true (by dsimp only;rw [hge];rfl)) ?_
    have N3:=hN.chl c3 ngl hl0
    refine ⟨_,rfl,_,_,rfl,rfl,⟨by decide,by decide⟩,_,rfl,net,_,_,_,rfl,rfl,SqT.of N3.p,rfl,_,_,rfl,rfl,_,rfl,?_⟩
    by_cases hel:L<e/2
    ·refine v_i (decide_eq_true (by lia)) ?_
     have hgts:gts.length<=60:=by lia
     refine ⟨_,rfl,.inl ⟨rfl,_,SqL.of g3⟩,_,rfl,pg,_,_,rfl,rfl,g3,y_b (by rw [z_o];lia),?_⟩
     rw [<-y_g]
     have c4:=c3.fr (o:=.lst (z_g (gts++[e]))) hpgH
     have C4:=C3.up ngo ngl' (.lst (z_g (gts++[e])))
     have g4:=z_d (H:=J3) (a:=pg) (o:=.lst (z_g (gts++[e])))
     have f4:(upd J3 pg (.lst (z_g (gts++[e])))) fd=some (.dK (putK kvF (.inl (e:Int)) (oV (gv (R e))))):=by rw [z_r nfg];exact f3
     have w4:(upd J3 pg (.lst (z_g (gts++[e])))) pw=some (.lst (z_g wt')):=by rw [z_r ngw.symm];exact w3
     generalize upd J3 pg (.lst (z_g (gts++[e])))=J4 at c4 C4 g4 f4 w4 ⊢
     have N4:=hN.chl c4 ngl hl0
     obtain ⟨hb1,hb2⟩:=i_s hG hn he hel
     refine ⟨_,rfl,.inl ⟨rfl,_,SqL.of w4⟩,_,rfl,_,rfl,net,g,rs,L,gs,e,rfl,N4,hel,by lia,by lia,fun t J5 s5 ht=>⟨pw,t,_,_,rfl,rfl,s5 _ _ w4,ht,small (by rw [z_o,z_o];lia),?_⟩⟩
     have c5:=(c4.trans s5.ch).fr (o:=.lst (z_g wt'++z_g (belN L gs e))) hpwH
     have C5:=(C4.same s5).up nwo nwl (.lst (z_g wt'++z_g (belN L gs e)))
     have ew:z_g wt'++z_g (belN L gs e)=z_g (wt'++belN L gs e):=by unfold z_g;rw [List.map_append]
     have hI5:=hI.gate hG hn he ((hS0 e he0).2 hge hel) heS hge hel
     refine ⟨m-4+(belN L gs e).length,by lia,_,S++[e],gts++[e],wt'++belN L gs e,_,rfl,c5,C5,by rw [z_r nfw];exact s5 _ _ f4,hF3,by rw [z_r ngw];exact s5 _ _ g4,by rw [z_d,ew],hI5,by rw [lS,List.length_append];lia,by rw [List.length_append,List.length_append];have:[e].length=1:=rfl;lia⟩
    ·refine x_d (decide_eq_false (by lia)) ?_
     exact ⟨m-4,by lia,_,S++[e],gts,wt',_,rfl,c3,C3,f3,hF3,g3,w3,hI.plain heS (fun h=>hel h.2),by lia,by lia⟩
theorem o_z(T:Tx w K mg A):FnOk P w K mg base CX0 1 A.a_both_bits A.d_both_bits ["one", "other"] l_n:=by
 refine T.F_both_bits.ok n_o (fun vs H Q E h=>?_) (fun cdv A' outer s H vs Q E hr h=>?_)
 ·obtain ⟨x,y,rfl,q⟩:=h
  rfl
 obtain ⟨x,y,rfl,q⟩:=h
 refine ⟨_,(z_h (z_y (s_r (PW.pt (r_p (z_z k_g (pv 0) u_l (nomark _)) (s_f (z_z k_g (pv 1) u_l (nomark _))))) u_l (z_k op_and (pv 0) (pv 1))))),?_⟩
 cases x with
 | none =>
  refine ⟨_,rfl,rfl,_,rfl,v_i (decide_eq_true rfl) (iteT ?_)⟩
  cases y<;>exact q
 | some x =>
  refine ⟨_,rfl,rfl,_,rfl,x_d (decide_eq_false (fun h=>by cases h)) ?_⟩
  cases y with
  | none=>exact ⟨_,rfl,rfl,_,rfl,v_i (decide_eq_true rfl) q⟩
  | some y=>exact ⟨_,rfl,rfl,_,rfl,x_d (decide_eq_false (fun h=>by cases h)) ⟨_,rfl,_,rfl,_,_,rfl,rfl,q⟩⟩
theorem r_n(T:Tx w K mg A)(C_bits_of_both:LamAt mg base A.tc_bits_of_both A.tp_bits_of_both)(G_all_stands:FnOk P w K mg base CX0 1 A.a_all_stands A.d_all_stands ["many"] t_y)(G_found_of:∀ base':Heap,FnOk P w K mg base' CX0 2 A.a_found_of A.d_found_of ["net", "classes", "given", "ends", "turned", "both"] (k_u A.c_Classes P w K mg base'))(G_both_bits:∀ base':Heap,FnOk P w K mg base' CX0 1 A.a_both_bits A.d_both_bits ["one", "other"] l_n)(G_Classes_least:FnOk P w K mg base CX0 1 A.a_Classes_least A.d_Classes_least ["self", "end"] (w_s A.c_Classes)):FnOk P w K mg base CX0 3 A.a_bits_of_both A.d_bits_of_both ["net", "classes", "step"] (f_h A.c_Classes A.tp_bits_of_both z_q z_n):=by
 refine T.F_bits_of_both.okC T.L_bits_of_both sc_bits_of_both (fun vs H Q E h=>?_) (fun A' outer s H vs Q E hr h=>?_)
 ·obtain ⟨net,g,o,l,st,lt,rs,L,n,a,b,gs,R,ls,rfl,hS,h6,hd,hP,q⟩:=h
  rfl
 obtain ⟨net,g,o,l,st,lt,rs,L,n,a,b,gs,R,ls,rfl,hS,h6,hd,hP,q⟩:=h
 have hu:=hu_of hr
 refine ⟨_,(z_e (z_v (i:=3) sc_bits_of_both.nd rfl (Or.inl rfl) (z_j G_all_stands (hr.mono (by first | decide | lia)) rfl T.M_all_stands T.F_all_stands.kp T.B_all_stands .nil pass0 (z_a (z_m u_x rfl T.len PySem.boot_len (z_a (z_l t_e (pv 2) z_c (fun _ _=>rfl)) z_b)) z_b)))
  (z_e (z_v (i:=4) sc_bits_of_both.nd rfl (Or.inr rfl) (z_l t_e (pv 3) z_c (fun _ _=>rfl)))
  (z_e (z_v (i:=5) sc_bits_of_both.nd rfl (Or.inl rfl) (g_l (s_t z_c z_c (s_t z_c (pv 4) g_u)) rfl rfl (by simp) (by decide)))
  (z_e (x_q PassesOwn.never rfl (pi_zipm rfl T.zip (z_a (z_l t_e (pv 2) z_c (fun _ _=>rfl)) (z_a (z_l t_e (pv 3) z_c (fun _ _=>rfl)) z_b))) (k_j rfl (z_u (z_t (i:=6) sc_bits_of_both.nd rfl (Or.inl rfl)) (z_u (z_t (i:=7) sc_bits_of_both.nd rfl (Or.inl rfl)) y_o)))
    (z_e (p_k hu (pv 5) (x_o (pv 1) T.cl_Classes T.me_Classes_least G_Classes_least (hr.mono (by first | decide | lia)) T.B_Classes_least .nil pass0 (z_a (pv 6) z_b)) (pv 7) rfl)
  (z_h (p_k hu (pv 5) (z_k v_e (x_o (pv 1) T.cl_Classes T.me_Classes_least G_Classes_least (hr.mono (by first | decide | lia)) T.B_Classes_least .nil pass0 (z_a (pv 6) z_b)) z_c) (z_k v_e (pv 4) (pv 7)) rfl))))
  (z_e (ps_defC (qual:=z_n) (j:=8) C_bits_of_both rfl (by first | rfl | decide) rfl rfl rfl sc_bits_of_both.nd rfl (Or.inl rfl))
  (z_h (z_y (pe_callW (fr := "high") (i:=4) G_found_of (hr.mono (by first | decide | lia)) rfl T.M_found_of T.F_found_of.kp T.B_found_of rfl rfl rfl (z_a (pv 0) (z_a (pv 1) (z_a (pv 5) (z_a (s_s f_f (pv 2) (s_c z_c) (s_c z_c)) (z_a (pv 8) (z_a (pe_fnV rfl T.M_both_bits) z_b)))))))))))))),?_⟩
 obtain ⟨⟨L0,hl0⟩,x0,ho0⟩:=hS.cls.lst
 have nol:o≠l:=hS.cls.ne
 have nst:st≠l:=w_m hS.st hl0
 have nlt:lt≠l:=w_m hS.lt hl0
 have ntp:A.tp_bits_of_both≠l:=fun e=>by rw [e,hl0] at hP;cases hP
 refine ⟨_,rfl,st,_,_,_,rfl,rfl,SqT.of hS.st,rfl,_,_,rfl,.inr ⟨_,SqT.of hS.lt,rfl⟩,ls.length,by rw [z_o];rfl,h6,fun ps pq H1 hps hpq s1 e1 e2=>?_⟩
 have npl:ps≠l:=w_m e1 (s1 _ _ hl0)
 have nql:pq≠l:=fun e=>by rw [e,hl0] at hpq;cases hpq
 refine ⟨_,rfl,ps,_,_,_,rfl,rfl,SqT.of e1,rfl,fun gd hgd=>?_⟩
 refine ⟨_,rfl,z_d,[(.inl ((0:Nat):Int),.int ((0:Nat):Int)),(.inl ((1:Nat):Int),.int ((hiW ls.length:Nat):Int))],rfl,(by show 2<=15;decide),?_⟩
 have k0:=DkI.two (hi:=hiW ls.length)
 generalize mergeK [] [((.inl ((0:Nat):Int):Key),V.int ((0:Nat):Int)),(.inl ((1:Nat):Int),.int ((hiW ls.length:Nat):Int))]=kv0 at k0 ⊢
 have hgdH:=s1.free hgd
 have s2:Same H1 (upd (upd H1 gd (.dK [])) gd (.dK kv0)):=x_c (z_f hgd _) hgd _
 have f2:=z_d (H:=upd H1 gd (.dK [])) (a:=gd) (o:=.dK kv0)
 dsimp only [gName]
 generalize upd (upd H1 gd (.dK [])) gd (.dK kv0)=H2 at s2 f2 ⊢
 have s2':=s1.trans s2
 have ngl:l≠gd:=z_i hl0 hgdH
 have ngo:o≠gd:=z_i ho0 hgdH
 have ngq:pq≠gd:=z_i e2 hgd
 have hlz:(sdL ls.length).length=ls.length:=p_p
 refine ⟨_,rfl,st,_,_,_,rfl,rfl,SqT.of (s2' _ _ hS.st),rfl,_,rfl,ps,_,_,_,rfl,rfl,SqT.of (s2 _ _ e1),rfl,lt,pq,rfl,⟨_,SqT.of (s2' _ _ hS.lt)⟩,⟨_,SqL.of (s2 _ _ e2)⟩,for_zipm (xs:=z_g ls) (ys:=z_g (sdL ls.length)) (fun i σ J=>∃ (x6 x7:Option V) (kvs:List (Key×V)),σ=[some (.ref net),some (.ref o),some (.ref st),some (.ref ps),some (.int ((hiW ls.length:Nat):Int)),some (.ref gd),x6,x7,none]/\Ch l H J/\ClsAt A.c_Classes J o l n R/\J gd=some (.dK kvs)/\J pq=some (.lst (z_g (sdL ls.length)))/\DkI kvs (gkL R (hiW ls.length) ((ls.zip (sdL ls.length)).take i)) (2+2*i)) ⟨_,_,kv0,rfl,s2'.ch,hS.cls.same s2',f2,s2 _ _ e2,k0⟩ ?_ (by rw [z_o,z_o,hlz]) ?_ ?_⟩
 ·rintro i σ J ⟨_,_,_,rfl,cJ,_,_,hq,_⟩
  exact ⟨SqT.of (cJ _ _ nlt hS.lt),SqL.of hq⟩
 ·rintro i x y p σ J hx hy ⟨x6,x7,kvs,rfl,cJ,CJ,dJ,qJ,hk⟩ hp
  obtain ⟨hi,rfl⟩:=w_b hx
  obtain ⟨hi2,rfl⟩:=w_b hy
  have hsi:ls[i]? = some (ls.getD i 0):=by rw [List.getD_eq_getElem?_getD,List.getElem?_eq_getElem hi];rfl
  have hwi:(sdL ls.length)[i]? = some ((sdL ls.length).getD i 0):=by rw [List.getD_eq_getElem?_getD,List.getElem?_eq_getElem hi2];rfl
  have hnew:=dst_new (hi:=hiW ls.length) hd hlz hsi
  have htk:=y_u (List.getElem?_zip_eq_some.mpr ⟨hsi,hwi⟩:(ls.zip (sdL ls.length))[i]? = some (ls.getD i 0,(sdL ls.length).getD i 0))
  have hel:=hS.hl _ (List.mem_of_getElem? hsi)
  generalize ls.getD i 0=e at hsi hnew htk hel ⊢
  generalize (sdL ls.length).getD i 0=w0 at hwi htk ⊢
  have t1:=z_f hp (.tup [.int (e:Int),.int (w0:Int)])
  refine ⟨p,_,rfl,SqT.of z_d,rfl,_,_,rfl,_,_,rfl,rfl,?_⟩
  have c1:=cJ.trans t1.ch
  have C1:=CJ.same t1
  have d1:=t1 _ _ dJ
  have q1:=t1 _ _ qJ
  dsimp only [gName]
  generalize upd J p (.tup [.int (e:Int),.int (w0:Int)])=J1 at t1 c1 C1 d1 q1 ⊢
  obtain ⟨dx1,ho1⟩:=C1.1
  refine ⟨_,rfl,_,rfl,_,rfl,o,dx1,_,rfl,ho1,t_d (by decide),_,rfl,o,l,n,R,e,rfl,C1,by lia,fun J2 ch2 C2=>?_⟩
  have d2:=ch2 _ _ ngl.symm d1
  have q2:=ch2 _ _ nql q1
  have hkl:=hk.1
  refine ⟨gd,_,rfl,DPut.k (k:=.inl ((R e:Nat):Int)) d2 (y_b (by lia)),?_⟩
  have k2:=hk.new (w:=w0) (hnew (R e) rfl)
  have c3:=(c1.trans ch2).fr (o:=.dK (putK kvs (.inl ((R e:Nat):Int)) (.int (w0:Int)))) hgdH
  have C3:=C2.up ngo ngl (.dK (putK kvs (.inl ((R e:Nat):Int)) (.int (w0:Int))))
  have d3:=z_d (H:=J2) (a:=gd) (o:=.dK (putK kvs (.inl ((R e:Nat):Int)) (.int (w0:Int))))
  have q3:(upd J2 gd (.dK (putK kvs (.inl ((R e:Nat):Int)) (.int (w0:Int))))) pq=some (.lst (z_g (sdL ls.length))):=by rw [z_r ngq];exact q2
  generalize upd J2 gd (.dK (putK kvs (.inl ((R e:Nat):Int)) (.int (w0:Int))))=J3 at c3 C3 d3 q3 ⊢
  obtain ⟨dx3,ho3⟩:=C3.1
  refine ⟨_,rfl,_,rfl,_,_,rfl,rfl,_,rfl,_,rfl,o,dx3,_,rfl,ho3,t_d (by decide),_,rfl,o,l,n,R,e,rfl,C3,by lia,fun J4 ch4 C4=>?_⟩
  have d4:=ch4 _ _ ngl.symm d3
  have q4:=ch4 _ _ nql q3
  have x1:Builtin.bitXor ((R e:Nat):Int) 1=((R e^^^1:Nat):Int):=v_c (R e) 1
  have x2:Builtin.bitXor ((hiW ls.length:Nat):Int) (w0:Int)=((hiW ls.length^^^w0:Nat):Int):=v_c _ _
  have k4:=k2.new (k:=R e^^^1) (w:=hiW ls.length^^^w0) (by
   rw [k_d,hnew (R e^^^1) (xor1 (R e)).1]
   exact if_neg fun h=>(xor1 (R e)).2.1 h.symm)
  have kl2:=k2.1
  refine ⟨_,_,rfl,rfl,gd,_,rfl,(by dsimp only;rw [x1,x2];exact DPut.k (k:=.inl ((R e^^^1:Nat):Int)) d4 (y_b (by lia))),?_⟩
  refine ⟨_,_,_,rfl,(c3.trans ch4).fr hgdH,C4.up ngo ngl _,z_d,by rw [z_r ngq];exact q4,?_⟩
  rw [htk,gkL_snoc]
  exact k4
 rintro σ J ⟨x6,x7,kvs,rfl,cJ,CJ,dJ,_,hk⟩
 rw [z_o,show (ls.zip (sdL ls.length)).take ls.length=ls.zip (sdL ls.length) from List.take_of_length_le (by rw [List.length_zip,hlz];lia)] at hk
 refine ⟨cJ _ _ ntp hP,fun f c' fo J1 sm hfn hff hcl hcd=>?_⟩
 have c1:=cJ.trans sm.ch
 refine ⟨_,rfl,_,rfl,_,rfl,_,rfl,_,rfl,_,rfl,st,_,rfl,c1 _ _ nst hS.st,fun et J2 sm2 het=>⟨_,rfl,.int ((hiW ls.length:Nat):Int),rfl,fun base' oce uy hc hv ry=>?_⟩⟩
 obtain ⟨fdt,Ft,Bt,dt⟩:=clo_ok (P:=P) (w:=w) (K:=K) (mg:=mg) hc hv ry hcl rfl rfl rfl rfl rfl (fun doc pm ctv u=>rfl) (fun A outer s H=>z_h (z_y (s_r (z_z k_g (pv 1) u_l (nomark _)) u_l (z_k v_e (pv 0) (pv 1)))))
 obtain ⟨oc,od,kV,doc,pm,an,cdv,ct,osl,eD,lk,hcd'⟩:=T.F_both_bits.ex
 have c2:=c1.trans sm2.ch
 refine ⟨net,g,o,l,gd,et,f,A.a_both_bits,c',rs,L,n,hiW ls.length,a,b,gs,R,kvs,lkN (gkL R (hiW ls.length) (ls.zip (sdL ls.length))),fo,_,_,fdt,A.d_both_bits,rfl,hS.net.chl c2 hS.gl hl0,hS.gt,hS.hn,hS.n30,hS.clo h6 hd,(CJ.same sm).same sm2,sm2 _ _ (sm _ _ dJ),hk.2,het,hS.ha,hS.hb,hS.gl,⟨⟨_,sm2 _ _ hff⟩,dt,hcd.same sm2,?_,Bt,lk,rfl,G_both_bits base',T.B_both_bits⟩,fun p J3 hp ch3 C3 e3=>q p J3 (c2.trans ch3) C3 e3⟩
 refine Ft.imp fun vs H Q E h=>?_
 obtain ⟨x,u,rfl,hf,hcd,q⟩:=h
 refine ⟨oV x,u,rfl,hf,hcd,?_⟩
 cases x with
 | none=>exact ⟨_,rfl,rfl,_,rfl,v_i (decide_eq_true rfl) q⟩
 | some x =>
  refine ⟨_,rfl,rfl,_,rfl,x_d (decide_eq_false (fun h=>by cases h)) ⟨_,rfl,_,rfl,_,_,rfl,rfl,?_⟩⟩
  have x2:Builtin.bitXor ((hiW ls.length:Nat):Int) (x:Int)=((hiW ls.length^^^x:Nat):Int):=v_c _ _
  dsimp only
  rw [x2]
  exact q
theorem i_c(T:Tx w K mg A)(G_is_step:FnOk P w K mg base CX0 4 A.a_is_step A.d_is_step ["net", "classes", "thing"] (f_k A.c_Classes))(G_bits_of_both:FnOk P w K mg base CX0 3 A.a_bits_of_both A.d_bits_of_both ["net", "classes", "step"] (f_h A.c_Classes A.tp_bits_of_both z_q z_n))(G_sets_of_both:FnOk P w K mg base CX0 1 A.a_sets_of_both A.d_sets_of_both ["net", "classes", "step"] nv_any):FnOk P w K mg base CX0 5 A.a_is_good A.d_is_good ["net", "classes", "step"] (k_v A.c_Classes A.tp_bits_of_both z_q z_n):=by
 refine T.F_is_good.ok sc_is_good (fun vs H Q E h=>?_) (fun cdv A' outer s H vs Q E hr h=>?_)
 ·obtain ⟨net,g,o,l,st,lt,rs,L,n,a,b,gs,R,ls,rfl,hS,hP,q⟩:=h
  rfl
 obtain ⟨net,g,o,l,st,lt,rs,L,n,a,b,gs,R,ls,rfl,hS,hP,q⟩:=h
 refine ⟨_,(z_e (x_j (v_g (y_w (z_j G_is_step (hr.mono (by first | decide | lia)) rfl T.M_is_step T.F_is_step.kp T.B_is_step .nil pass0 (z_a (pv 0) (z_a (pv 1) (z_a (pv 2) z_b)))) (fun _=>rfl))) (z_h (z_y s_m)) y_c)
  (z_e (x_j (z_z s_l (z_l ix_tup0 (pv 2) z_c (fun _ _=>rfl)) n_i (nomark _)) (z_h (z_v (i:=3) sc_is_good.nd rfl (Or.inl rfl) (z_j G_bits_of_both (hr.mono (by first | decide | lia)) rfl T.M_bits_of_both T.F_bits_of_both.kp T.B_bits_of_both .nil pass0 (z_a (pv 0) (z_a (pv 1) (z_a (pv 2) z_b)))))) (z_h (z_v (i:=3) sc_is_good.nd rfl (Or.inl rfl) (z_j G_sets_of_both (hr.mono (by first | decide | lia)) rfl T.M_sets_of_both T.F_sets_of_both.kp T.B_sets_of_both .nil pass0 (z_a (pv 0) (z_a (pv 1) (z_a (pv 2) z_b)))))))
  (z_h (z_y (r_o (u_k p_i (z_l ix_list0 (pv 3) z_c (fun _ _=>rfl)) u_l (nomark _)) (n_h (u_k s_l (z_l ix_list0 (pv 3) z_c (fun _ _=>rfl)) (z_l ix_list0 (pv 3) z_c (fun _ _=>rfl)) (nomark _)))))))),?_⟩
 obtain ⟨⟨L0,hl0⟩,x0,ho0⟩:=hS.cls.lst
 have nst:st≠l:=w_m hS.st hl0
 have nlt:lt≠l:=w_m hS.lt hl0
 have ntp:A.tp_bits_of_both≠l:=fun e=>by rw [e,hl0] at hP;cases hP
 refine ⟨_,rfl,_,rfl,_,rfl,net,g,o,l,st,lt,rs,L,n,a,b,gs,R,ls,rfl,hS,fun H1 c1 C1=>⟨_,rfl,?_⟩⟩
 by_cases hst:ls.length<=6/\Dst R ls
 case neg =>
  have:=q H1 c1 C1
  unfold goodS at this
  rw [decide_eq_false (fun h=>hst ⟨h.1,h.2.1⟩)] at this
  exact v_i (by rw [decide_eq_false hst];rfl) this
 refine x_d (by rw [decide_eq_true hst];rfl) ?_
 have hS1:StpA A.c_Classes H1 net g o l st lt rs L n a b gs R ls:=⟨hS.net.chl c1 hS.gl hl0,hS.gt,hS.hn,hS.n30,C1,c1 _ _ nst hS.st,c1 _ _ nlt hS.lt,hS.ha,hS.hb,hS.hl,hS.l7,hS.gl,hS.clo⟩
 refine ⟨_,rfl,st,_,_,_,rfl,rfl,SqT.of hS1.st,rfl,rfl,_,rfl,v_i (decide_eq_true rfl) ?_⟩
 refine ⟨_,rfl,_,rfl,_,rfl,net,g,o,l,st,lt,rs,L,n,a,b,gs,R,ls,rfl,hS1,hst.1,hst.2,c1 _ _ ntp hP,fun p H2 c2 C2 fp=>?_⟩
 have hq:=q H2 (c1.trans c2) C2
 unfold goodS at hq
 refine ⟨_,rfl,p,_,_,_,rfl,rfl,SqL.of fp,rfl,rfl,_,rfl,?_⟩
 cases ha:valS R L gs ls a with
 | none =>
  rw [decide_eq_false (fun h=>h.2.2.1 ha)] at hq
  exact x_d rfl hq
 | some x =>
  rw [ha] at fp hq
  refine v_i rfl ⟨_,rfl,p,_,_,_,rfl,rfl,SqL.of fp,rfl,_,rfl,p,_,_,_,rfl,rfl,SqL.of fp,rfl,?_⟩
  cases hb:valS R L gs ls b with
  | none =>
   rw [hb] at hq
   rw [decide_eq_false (fun h=>by cases h.2.2.2)] at hq
   exact ⟨rfl,hq⟩
  | some y =>
   rw [hb] at hq
   refine ⟨rfl,?_⟩
   have e:decide (V.int (x:Int)=V.int (y:Int))=decide (ls.length<=6/\Dst R ls/\some x≠none/\some x=some y):=decide_eq_decide.mpr ⟨fun h=>by injection h with h;exact ⟨hst.1,hst.2,nofun,by rw [show x=y by lia]⟩,fun h=>by rw [Option.some.inj h.2.2.2]⟩
   exact (congrArg (fun b=>Q (V.bl b) H2) e).mpr hq
theorem p_c(T:Tx w K mg A)(G_Classes_init:FnOk P w K mg base CX0 1 A.a_Classes_init A.d_Classes_init ["self", "knots"] (n_u A.c_Classes)):FnOk P w K mg base CX0 3 A.a_classes_of A.d_classes_of ["net"] (w_r A.c_Classes):=by
 refine T.F_classes_of.ok p_m (fun vs H Q E h=>?_) (fun cdv A' outer s H vs Q E hr h=>?_)
 ·obtain ⟨net,g,rs,L,n,gs,rfl,hN,hn,h1000,q⟩:=h
  rfl
 obtain ⟨net,g,rs,L,n,gs,rfl,hN,hn,h1000,q⟩:=h
 refine ⟨_,(z_h (z_y (pe_make T.mk_Classes G_Classes_init (hr.mono (by first | decide | lia)) rfl T.M_Classes T.B_Classes_init .nil pass0 (z_a (z_k z_x (z_k z_x z_c (z_l ix_tup0 (pv 0) z_c (fun _ _=>rfl))) (z_m z_s rfl T.len PySem.boot_len (z_a (z_l ix_tup0 (pv 0) z_c (fun _ _=>rfl)) z_b))) z_b)))),?_⟩
 have hl:=hN.g.lenS
 have en:1+(L:Int)+(((rs.map V.ref).length:Nat):Int)=(n:Int):=by rw [List.length_map];lia
 refine ⟨_,rfl,net,_,_,_,rfl,rfl,SqT.of hN.p,rfl,_,_,rfl,rfl,_,rfl,net,_,_,_,rfl,rfl,SqT.of hN.p,rfl,_,_,rfl,.inl ⟨_,SqL.of hN.g.1,rfl⟩,_,_,rfl,rfl,fun o dx ho hdx _=>⟨o,dx,n,?_,z_d,by lia,fun l H6 hl0 ch0 hC0=>⟨rfl,q o l H6 (h_w hl0) (h_x ho hdx ch0) hC0⟩⟩⟩
 dsimp only
 rw [en]
 rfl
theorem p_h(T:Tx w K mg A)(G_is_good:FnOk P w K mg base CX0 5 A.a_is_good A.d_is_good ["net", "classes", "step"] (k_v A.c_Classes A.tp_bits_of_both z_q z_n))(G_Classes_join:FnOk P w K mg base CX0 2 A.a_Classes_join A.d_Classes_join ["self", "one", "other"] (t_x A.c_Classes)):FnOk P w K mg base CX0 6 A.a_take_steps A.d_take_steps ["net", "classes", "steps", "where"] (p_t A.c_Classes A.tp_bits_of_both z_q z_n):=by
 refine T.F_take_steps.ok sc_take_steps (fun vs H Q E h=>?_) (fun cdv A' outer s H vs Q E hr h=>?_)
 ·obtain ⟨net,g,o,l,p,rs,L,n,gs,R,R2,ss,wh,rfl,hN,hG,hn,h1000,hC,hSt,ngl,npl,hR,hP,q⟩:=h
  rfl
 obtain ⟨net,g,o,l,p,rs,L,n,gs,R,R2,ss,wh,rfl,hN,hG,hn,h1000,hC,hSt,ngl,npl,hR,hP,q⟩:=h
 refine ⟨_,(z_h (x_q PassesOwn.never rfl (l_h (l_g rfl T.enumerate (z_a (pv 2) z_b)) (p_j rfl T.enumerate (z_a (pv 2) z_b))) (y_x rfl (z_u (z_t (i:=4) sc_take_steps.nd rfl (Or.inl rfl)) (z_u (z_t (i:=5) sc_take_steps.nd rfl (Or.inl rfl)) y_o)))
    (z_h (x_j (PW.pt (r_p (v_g (y_w (z_j G_is_good (hr.mono (by first | decide | lia)) rfl T.M_is_good T.F_is_good.kp T.B_is_good .nil pass0 (z_a (pv 0) (z_a (pv 1) (z_a (pv 5) z_b)))) (fun _=>rfl))) (s_f (v_g (y_w (x_o (pv 1) T.cl_Classes T.me_Classes_join G_Classes_join (hr.mono (by first | decide | lia)) T.B_Classes_join .nil pass0 (z_a (z_l ix_tup0 (pv 5) z_c (fun _ _=>rfl)) (z_a (z_l ix_tup0 (pv 5) z_c (fun _ _=>rfl)) z_b))) (fun _=>rfl)))))) (z_h v_f) y_c)))),?_⟩
 obtain ⟨⟨L0,hl0⟩,x0,ho0⟩:=hC.lst
 obtain ⟨kb,ars,hp,hpr⟩:=hSt.ex
 have ntp:A.tp_bits_of_both≠l:=fun e=>by rw [e,hl0] at hP;cases hP
 have hlen:ars.length=ss.length:=hpr.length
 refine r_b (fun N hN=>⟨_,rfl,hN⟩) hp (fun i σ J=>∃ (x4 x5:Option V) (Ri:Nat->Nat),σ=[some (.ref net),some (.ref o),some (.ref p),some (.str wh),x4,x5]/\Ch l H J/\ClsAt A.c_Classes J o l n Ri/\RunS L n gs Ri (ss.drop i) R2) ⟨_,_,R,rfl,Ch.refl,hC,hR⟩ ?_ ?_ ?_
 ·rintro i σ J ⟨_,_,_,_,cJ,_,_⟩
  exact cJ _ _ npl hp
 ·rintro i v pe σ J hv ⟨x4,x5,Ri,rfl,cJ,CJ,hRi⟩ hpe
  rw [List.getElem?_map] at hv
  obtain ⟨sr,hsr,rfl⟩:=Option.map_eq_some_iff.mp hv
  obtain ⟨stp,hst,lt,e1,e2⟩:=y_v hpr hsr
  obtain ⟨sa,sb,ls⟩:=stp
  have hil:=(List.getElem?_eq_some_iff.mp hst).1
  rw [List.drop_eq_getElem_cons hil,(List.getElem?_eq_some_iff.mp hst).2] at hRi
  cases hRi with
  | cons ha hb hls l6 hg hc h1 h2 hrest =>
  have nsr:sr≠l:=w_m e1 hl0
  have nlt:lt≠l:=w_m e2 hl0
  have t1:=z_f hpe (.tup [.int (i:Int),.ref sr])
  have c1:=cJ.trans t1.ch
  have C1:=CJ.same t1
  refine ⟨pe,_,rfl,SqT.of z_d,rfl,_,_,rfl,_,_,rfl,rfl,?_⟩
  dsimp only [gName]
  generalize upd J pe (.tup [.int (i:Int),.ref sr])=J1 at t1 c1 C1 ⊢
  have S1:StpA A.c_Classes J1 net g o l sr lt rs L n sa sb gs Ri ls:=⟨hN.chl c1 ngl hl0,hG,hn,h1000,C1,c1 _ _ nsr e1,c1 _ _ nlt e2,ha,hb,hls,by lia,ngl,fun _ _=>hc⟩
  refine ⟨_,rfl,_,rfl,_,rfl,net,g,o,l,sr,lt,rs,L,n,sa,sb,gs,Ri,ls,rfl,S1,c1 _ _ ntp hP,fun J2 c2 C2=>⟨_,rfl,x_d (by rw [hg];rfl) ?_⟩⟩
  obtain ⟨dx2,ho2⟩:=C2.1
  obtain ⟨⟨L1,hl1⟩,_⟩:=C1.lst
  have st2:=c2 _ _ nsr S1.st
  refine ⟨_,rfl,o,dx2,_,rfl,ho2,t_d (by decide),_,rfl,sr,_,_,_,rfl,rfl,SqT.of st2,rfl,_,rfl,sr,_,_,_,rfl,rfl,SqT.of st2,rfl,o,l,n,Ri,sa,sb,rfl,C2,by lia,by lia,.inr (.inr ⟨h1,h2,fun J3 c3 C3=>⟨_,rfl,x_d rfl ?_⟩⟩)⟩
  exact ⟨_,_,_,rfl,(c1.trans c2).trans c3,C3,hrest⟩
 ·rintro σ J ⟨x4,x5,Ri,rfl,cJ,CJ,hRi⟩
  rw [List.length_map,hlen,List.drop_length] at hRi
  cases hRi
  exact q J cJ CJ
theorem q_i(T:Tx w K mg A)(G_classes_of:FnOk P w K mg base CX0 3 A.a_classes_of A.d_classes_of ["net"] (w_r A.c_Classes))(G_take_steps:FnOk P w K mg base CX0 6 A.a_take_steps A.d_take_steps ["net", "classes", "steps", "where"] (p_t A.c_Classes A.tp_bits_of_both z_q z_n))(G_start_net:FnOk P w K mg base CX0 2 A.a_start_net A.d_start_net ["work"] s_i)(G_Classes_alike:FnOk P w K mg base CX0 2 A.a_Classes_alike A.d_Classes_alike ["self", "one", "other"] (t_b A.c_Classes))(G_start_end:FnOk P w K mg base CX0 1 A.a_start_end A.d_start_end ["work", "end"] u_w):FnOk P w K mg base CX0 7 A.a_look_starts A.d_look_starts ["work", "kept", "steps"] (n_z A.c_Classes A.tp_bits_of_both z_q z_n):=by
 refine T.F_look_starts.ok sc_look_starts (fun vs H Q E h=>?_) (fun cdv A' outer s H vs Q E hr h=>?_)
 ·obtain ⟨w,b,g,o,kp,sp,W,kept,rfl,hW,ok,h400,hK,hSt,hOk,hP,q⟩:=h
  rfl
 obtain ⟨w,b,g,o,kp,sp,W,kept,rfl,hW,ok,h400,hK,hSt,hOk,hP,q⟩:=h
 refine ⟨_,(z_e (z_v (i:=3) sc_look_starts.nd rfl (Or.inl rfl) (z_j G_classes_of (hr.mono (by first | decide | lia)) rfl T.M_classes_of T.F_classes_of.kp T.B_classes_of .nil pass0 (z_a (z_j G_start_net (hr.mono (by first | decide | lia)) rfl T.M_start_net T.F_start_net.kp T.B_start_net .nil pass0 (z_a (pv 0) z_b)) z_b)))
  (z_e (y_l (z_j G_take_steps (hr.mono (by first | decide | lia)) rfl T.M_take_steps T.F_take_steps.kp T.B_take_steps .nil pass0 (z_a (z_j G_start_net (hr.mono (by first | decide | lia)) rfl T.M_start_net T.F_start_net.kp T.B_start_net .nil pass0 (z_a (pv 0) z_b)) (z_a (pv 3) (z_a (pv 2) (z_a n_i z_b))))))
  (z_h (x_q PassesOwn.never rfl (l_h (y_d (pv 1)) (v_j (pv 1))) (y_x rfl (z_u (z_t (i:=4) sc_look_starts.nd rfl (Or.inl rfl)) (z_u (z_t (i:=5) sc_look_starts.nd rfl (Or.inl rfl)) y_o)))
    (z_h (x_j (v_g (y_w (x_o (pv 3) T.cl_Classes T.me_Classes_alike G_Classes_alike (hr.mono (by first | decide | lia)) T.B_Classes_alike .nil pass0 (z_a (z_j G_start_end (hr.mono (by first | decide | lia)) rfl T.M_start_end T.F_start_end.kp T.B_start_end .nil pass0 (z_a (pv 0) (z_a (pv 4) z_b))) (z_a (z_j G_start_end (hr.mono (by first | decide | lia)) rfl T.M_start_end T.F_start_end.kp T.B_start_end .nil pass0 (z_a (pv 0) (z_a (pv 5) z_b))) z_b))) (fun _=>rfl))) (z_h v_f) y_c)))))),?_⟩
 have eG:=o_k (startOk ok)
 have hG:=o_r (startOk ok)
 have gl:(nG (startGates W)).length=W.gates.length:=by rw [v_l];unfold startGates;rw [List.length_map]
 have hk:=W.knots_is
 obtain ⟨n,hn⟩:∃ n,n=1+W.ins+(nG (startGates W)).length:=⟨_,rfl⟩
 refine ⟨_,rfl,w,b,g,o,W,rfl,hW,ok,fun p1 g1 rs1 H1 hp1 hg1 _ s1 hN1=>⟨p1,g1,rs1,W.ins,n,nG (startGates W),rfl,by rw [eG];exact hN1,hn,by lia,fun oo l H2 hl s2 hC=>?_⟩⟩
 have s02:=s1.trans s2
 have fl:=s1.free hl
 have hW2:=hW.same s02
 refine ⟨_,rfl,w,b,g,o,W,rfl,hW2,ok,fun p2 g2 rs2 H3 hp2 hg2 _ s3 hN3=>?_⟩
 have s03:=s02.trans s3
 obtain ⟨⟨LL,hLL⟩,_⟩:=hC.lst
 have ng2:g2≠l:=(z_i hLL hg2).symm
 have nsp:sp≠l:=by
  obtain ⟨kb,ars,h,_⟩:=hSt.ex
  exact z_i h fl
 refine ⟨_,rfl,_,rfl,p2,g2,oo,l,sp,rs2,W.ins,n,nG (startGates W),id,id,[],_,rfl,by rw [eG];exact hN3,hG,hn,by lia,hC.same s3,hSt.same s03,ng2,nsp,.nil _,s03 _ _ hP,fun H4 c4 C4=>?_⟩
 have s04:=Ch.same fl s03 c4
 obtain ⟨kb,ars,hp,hpr⟩:=hK.ex
 refine s_o (fun N hN=>⟨_,rfl,hN⟩) (s04 _ _ hp) (fun i σ J=>∃ (x4 x5:Option V),σ=[some (.ref w),some (.ref kp),some (.ref sp),some (.ref oo),x4,x5]/\Same H J/\ClsAt A.c_Classes J oo l n id) ⟨_,_,rfl,s04,C4⟩ ?_ ?_ ?_
 ·rintro i σ J ⟨_,_,_,sJ,_⟩
  exact sJ _ _ hp
 ·rintro i v σ J hv ⟨x4,x5,rfl,sJ,CJ⟩
  rw [List.getElem?_map] at hv
  obtain ⟨rr,hrr,rfl⟩:=Option.map_eq_some_iff.mp hv
  obtain ⟨pr,hpk,e1⟩:=y_v (R:=fun r (q:Nat×Nat)=>H r=some (.tup [.int (q.1:Int),.int (q.2:Int)])) hpr hrr
  obtain ⟨a1,a2,a3⟩:=hOk _ (List.mem_of_getElem? hpk)
  obtain ⟨x,hx⟩:∃ x:Nat,seF W (pr.1:Int)=(x:Int):=⟨(seF W (pr.1:Int)).toNat,by lia⟩
  obtain ⟨dx2,ho2⟩:=CJ.1
  have hWJ:=hW.same sJ
  refine ⟨rr,_,rfl,SqT.of (sJ _ _ e1),rfl,_,_,rfl,_,_,rfl,rfl,?_⟩
  refine ⟨_,rfl,oo,dx2,_,rfl,ho2,t_d (by decide),_,rfl,_,rfl,w,b,g,o,W,_,rfl,hWJ,ok,by lia,_,rfl,_,rfl,w,b,g,o,W,_,rfl,hWJ,ok,by lia,oo,l,n,id,x,x,by rw [<-a1,hx];rfl,CJ,by lia,by lia,fun J2 ch2 C2=>⟨_,rfl,x_d (by rw [decide_eq_true rfl];rfl) ?_⟩⟩
  exact ⟨_,_,rfl,Ch.same fl sJ ch2,C2⟩
 ·rintro σ J ⟨_,_,_,sJ,_⟩
  exact q J sJ
theorem p_e(T:Tx w K mg A)(G_classes_of:FnOk P w K mg base CX0 3 A.a_classes_of A.d_classes_of ["net"] (w_r A.c_Classes))(G_take_steps:FnOk P w K mg base CX0 6 A.a_take_steps A.d_take_steps ["net", "classes", "steps", "where"] (p_t A.c_Classes A.tp_bits_of_both z_q z_n))(G_next_net:FnOk P w K mg base CX0 3 A.a_next_net A.d_next_net ["work"] q_c)(G_Classes_join:FnOk P w K mg base CX0 2 A.a_Classes_join A.d_Classes_join ["self", "one", "other"] (t_x A.c_Classes))(G_Classes_alike:FnOk P w K mg base CX0 2 A.a_Classes_alike A.d_Classes_alike ["self", "one", "other"] (t_b A.c_Classes))(G_now_end:FnOk P w K mg base CX0 1 A.a_now_end A.d_now_end ["work", "end"] t_c)(G_then_end:FnOk P w K mg base CX0 2 A.a_then_end A.d_then_end ["work", "end"] t_j):FnOk P w K mg base CX0 7 A.a_look_nexts A.d_look_nexts ["work", "kept", "steps"] (k_x A.c_Classes A.tp_bits_of_both z_q z_n):=by
 refine T.F_look_nexts.ok sc_look_nexts (fun vs H Q E h=>?_) (fun cdv A' outer s H vs Q E hr h=>?_)
 ·obtain ⟨w,b,g,o,kp,sp,W,kept,ss,rfl,hW,ok,h400,hK,hSt,hOk,hP,q⟩:=h
  rfl
 obtain ⟨w,b,g,o,kp,sp,W,kept,ss,rfl,hW,ok,h400,hK,hSt,hOk,hP,q⟩:=h
 refine ⟨_,(z_e (z_v (i:=3) sc_look_nexts.nd rfl (Or.inl rfl) (z_j G_classes_of (hr.mono (by first | decide | lia)) rfl T.M_classes_of T.F_classes_of.kp T.B_classes_of .nil pass0 (z_a (z_j G_next_net (hr.mono (by first | decide | lia)) rfl T.M_next_net T.F_next_net.kp T.B_next_net .nil pass0 (z_a (pv 0) z_b)) z_b)))
  (z_e (x_q PassesOwn.never rfl (l_h (l_g rfl T.enumerate (z_a (pv 1) z_b)) (p_j rfl T.enumerate (z_a (pv 1) z_b))) (y_x rfl (z_u (z_t (i:=4) sc_look_nexts.nd rfl (Or.inl rfl)) (z_u (z_t (i:=5) sc_look_nexts.nd rfl (Or.inl rfl)) y_o)))
    (z_h (x_j (v_g (y_w (x_o (pv 3) T.cl_Classes T.me_Classes_join G_Classes_join (hr.mono (by first | decide | lia)) T.B_Classes_join .nil pass0 (z_a (z_j G_now_end (hr.mono (by first | decide | lia)) rfl T.M_now_end T.F_now_end.kp T.B_now_end .nil pass0 (z_a (pv 0) (z_a (z_l ix_tup0 (pv 5) z_c (fun _ _=>rfl)) z_b))) (z_a (z_j G_now_end (hr.mono (by first | decide | lia)) rfl T.M_now_end T.F_now_end.kp T.B_now_end .nil pass0 (z_a (pv 0) (z_a (z_l ix_tup0 (pv 5) z_c (fun _ _=>rfl)) z_b))) z_b))) (fun _=>rfl))) (z_h v_f) y_c)))
  (z_e (y_l (z_j G_take_steps (hr.mono (by first | decide | lia)) rfl T.M_take_steps T.F_take_steps.kp T.B_take_steps .nil pass0 (z_a (z_j G_next_net (hr.mono (by first | decide | lia)) rfl T.M_next_net T.F_next_net.kp T.B_next_net .nil pass0 (z_a (pv 0) z_b)) (z_a (pv 3) (z_a (pv 2) (z_a n_i z_b))))))
  (z_h (x_q PassesOwn.never rfl (l_h (y_d (pv 1)) (v_j (pv 1))) (y_x rfl (z_u (z_t (i:=6) sc_look_nexts.nd rfl (Or.inl rfl)) (z_u (z_t (i:=7) sc_look_nexts.nd rfl (Or.inl rfl)) y_o)))
    (z_h (x_j (v_g (y_w (x_o (pv 3) T.cl_Classes T.me_Classes_alike G_Classes_alike (hr.mono (by first | decide | lia)) T.B_Classes_alike .nil pass0 (z_a (z_j G_then_end (hr.mono (by first | decide | lia)) rfl T.M_then_end T.F_then_end.kp T.B_then_end .nil pass0 (z_a (pv 0) (z_a (pv 6) z_b))) (z_a (z_j G_then_end (hr.mono (by first | decide | lia)) rfl T.M_then_end T.F_then_end.kp T.B_then_end .nil pass0 (z_a (pv 0) (z_a (pv 7) z_b))) z_b))) (fun _=>rfl))) (z_h v_f) y_c))))))),?_⟩
 have eG:=o_k (nextOk ok)
 have hG:=o_r (nextOk ok)
 have gl:(nG (y_m W++y_k W)).length=2*W.gates.length:=by rw [v_l,List.length_append];unfold y_m y_k;rw [List.length_map,List.length_map];lia
 have hk:=W.knots_is
 have okb:=ok.boxes
 have oki:=ok.ins
 obtain ⟨n,hn⟩:∃ n,n=1+(2*W.ins+W.boxes.length)+(nG (y_m W++y_k W)).length:=⟨_,rfl⟩
 have hn2:1+(2*W.ins+W.boxes.length)+2*W.gates.length=n:=by lia
 obtain ⟨R1,R2,hKR,hRS,hal⟩:=hOk
 rw [hn2] at hKR hRS
 refine ⟨_,rfl,w,b,g,o,W,rfl,hW,ok,fun p1 g1 rs1 H1 hp1 hg1 _ s1 hN1=>⟨p1,g1,rs1,2*W.ins+W.boxes.length,n,nG (y_m W++y_k W),rfl,by rw [eG];exact hN1,hn,by lia,fun oo l H2 hl s2 hC=>?_⟩⟩
 have s02:=s1.trans s2
 have fl:=s1.free hl
 obtain ⟨kb,ars,hp,hpr⟩:=hK.ex
 have hlen:ars.length=kept.length:=hpr.length
 dsimp only [gName]
 refine w_l (fun σ J=>∃ (x4 x5:Option V),σ=[some (.ref w),some (.ref kp),some (.ref sp),some (.ref oo),x4,x5,none,none]/\Same H J/\ClsAt A.c_Classes J oo l n R1) (fun D hD=>?_) ?_
 ·refine r_b (fun N hN=>⟨_,rfl,hN⟩) (s02 _ _ hp) (fun i σ J=>∃ (x4 x5:Option V) (Ri:Nat->Nat),σ=[some (.ref w),some (.ref kp),some (.ref sp),some (.ref oo),x4,x5,none,none]/\Same H J/\ClsAt A.c_Classes J oo l n Ri/\KRun n Ri ((kept.map fun q:Nat×Nat=>(eM (kn W) q.1,eM (kn W) q.2)).drop i) R1) ⟨_,_,id,rfl,s02,hC,hKR⟩ ?_ ?_ ?_
  ·rintro i σ J ⟨_,_,_,_,sJ,_⟩
   exact sJ _ _ hp
  ·rintro i v pe σ J hv ⟨x4,x5,Ri,rfl,sJ,CJ,hRi⟩ hpe
   rw [List.getElem?_map] at hv
   obtain ⟨rr,hrr,rfl⟩:=Option.map_eq_some_iff.mp hv
   obtain ⟨pr,hpk,e1⟩:=y_v (R:=fun r (q:Nat×Nat)=>H r=some (.tup [.int (q.1:Int),.int (q.2:Int)])) hpr hrr
   have hil:=(List.getElem?_eq_some_iff.mp hpk).1
   rw [<-List.map_drop,List.drop_eq_getElem_cons hil,(List.getElem?_eq_some_iff.mp hpk).2,List.map_cons] at hRi
   cases hRi with
   | cons ha hb h1 h2 hrest =>
   have t1:=z_f hpe (.tup [.int (i:Int),.ref rr])
   have s1:=sJ.trans t1
   have C1:=CJ.same t1
   refine ⟨pe,_,rfl,SqT.of z_d,rfl,_,_,rfl,_,_,rfl,rfl,?_⟩
   dsimp only [gName]
   generalize upd J pe (.tup [.int (i:Int),.ref rr])=J1 at t1 s1 C1 ⊢
   obtain ⟨dx2,ho2⟩:=C1.1
   have hW1:=hW.same s1
   have er:=s1 _ _ e1
   refine ⟨_,rfl,oo,dx2,_,rfl,ho2,t_d (by decide),_,rfl,_,rfl,rr,_,_,_,rfl,rfl,SqT.of er,rfl,w,b,g,o,W,_,rfl,hW1,ok,by lia,_,rfl,_,rfl,rr,_,_,_,rfl,rfl,SqT.of er,rfl,w,b,g,o,W,_,rfl,hW1,ok,by lia,oo,l,n,Ri,eM (kn W) pr.1,eM (kn W) pr.2,by rw [o_u,o_u];rfl,C1,by lia,by lia,.inr (.inr ⟨h1,h2,fun J3 c3 C3=>⟨_,rfl,x_d rfl ?_⟩⟩)⟩
   refine ⟨_,_,_,rfl,Ch.same fl s1 c3,C3,?_⟩
   rw [<-List.map_drop]
   exact hrest
  ·rintro σ J ⟨x4,x5,Ri,rfl,sJ,CJ,hRi⟩
   rw [List.length_map,hlen,<-List.map_drop,List.drop_length] at hRi
   cases hRi
   exact hD _ _ ⟨_,_,rfl,sJ,CJ⟩
 rintro σ J ⟨x4,x5,rfl,sJ,CJ⟩
 refine ⟨_,rfl,w,b,g,o,W,rfl,hW.same sJ,ok,fun p2 g2 rs2 H3 hp2 hg2 _ s3 hN3=>?_⟩
 have s03:=sJ.trans s3
 obtain ⟨⟨LL,hLL⟩,_⟩:=CJ.lst
 have ng2:g2≠l:=(z_i hLL hg2).symm
 have nsp:sp≠l:=by
  obtain ⟨kb,ars,h,_⟩:=hSt.ex
  exact z_i h fl
 refine ⟨_,rfl,_,rfl,p2,g2,oo,l,sp,rs2,2*W.ins+W.boxes.length,n,nG (y_m W++y_k W),R1,R2,ss,_,rfl,by rw [eG];exact hN3,hG,hn,by lia,CJ.same s3,hSt.same s03,ng2,nsp,hRS,s03 _ _ hP,fun H4 c4 C4=>?_⟩
 have s04:=Ch.same fl s03 c4
 refine s_o (fun N hN=>⟨_,rfl,hN⟩) (s04 _ _ hp) (fun i σ J=>∃ (x6 x7:Option V),σ=[some (.ref w),some (.ref kp),some (.ref sp),some (.ref oo),x4,x5,x6,x7]/\Same H J/\ClsAt A.c_Classes J oo l n R2) ⟨_,_,rfl,s04,C4⟩ ?_ ?_ ?_
 ·rintro i σ J ⟨_,_,_,sJ,_⟩
  exact sJ _ _ hp
 ·rintro i v σ J hv ⟨x6,x7,rfl,sJ,CJ⟩
  rw [List.getElem?_map] at hv
  obtain ⟨rr,hrr,rfl⟩:=Option.map_eq_some_iff.mp hv
  obtain ⟨pr,hpk,e1⟩:=y_v (R:=fun r (q:Nat×Nat)=>H r=some (.tup [.int (q.1:Int),.int (q.2:Int)])) hpr hrr
  obtain ⟨x,y,ex,ey,lx,ly,exy⟩:=hal _ (List.mem_of_getElem? hpk)
  obtain ⟨dx2,ho2⟩:=CJ.1
  have hWJ:=hW.same sJ
  refine ⟨rr,_,rfl,SqT.of (sJ _ _ e1),rfl,_,_,rfl,_,_,rfl,rfl,?_⟩
  refine ⟨_,rfl,oo,dx2,_,rfl,ho2,t_d (by decide),_,rfl,_,rfl,w,b,g,o,W,_,rfl,hWJ,ok,by lia,_,rfl,_,rfl,w,b,g,o,W,_,rfl,hWJ,ok,by lia,oo,l,n,R2,x,y,by rw [ex,ey];rfl,CJ,by lia,by lia,fun J2 ch2 C2=>⟨_,rfl,x_d (by rw [decide_eq_true exy];rfl) ?_⟩⟩
  exact ⟨_,_,rfl,Ch.same fl sJ ch2,C2⟩
 ·rintro σ J ⟨_,_,_,sJ,_⟩
  exact q J sJ
theorem n_b(T:Tx w K mg A)(G_classes_of:FnOk P w K mg base CX0 3 A.a_classes_of A.d_classes_of ["net"] (w_r A.c_Classes))(G_take_steps:FnOk P w K mg base CX0 6 A.a_take_steps A.d_take_steps ["net", "classes", "steps", "where"] (p_t A.c_Classes A.tp_bits_of_both z_q z_n))(G_now_net:FnOk P w K mg base CX0 1 A.a_now_net A.d_now_net ["work"] q_o)(G_Classes_join:FnOk P w K mg base CX0 2 A.a_Classes_join A.d_Classes_join ["self", "one", "other"] (t_x A.c_Classes))(G_Classes_alike:FnOk P w K mg base CX0 2 A.a_Classes_alike A.d_Classes_alike ["self", "one", "other"] (t_b A.c_Classes)):FnOk P w K mg base CX0 7 A.a_look_nows A.d_look_nows ["work", "kept", "goals", "steps"] (f_j A.c_Classes A.tp_bits_of_both z_q z_n):=by
 refine T.F_look_nows.ok sc_look_nows (fun vs H Q E h=>?_) (fun cdv A' outer s H vs Q E hr h=>?_)
 ·obtain ⟨w,b,g,o,kp,gp,sp,W,kept,goals,ss,rfl,hW,ok,h400,hK,hGo,hSt,hOk,hP,q⟩:=h
  rfl
 obtain ⟨w,b,g,o,kp,gp,sp,W,kept,goals,ss,rfl,hW,ok,h400,hK,hGo,hSt,hOk,hP,q⟩:=h
 refine ⟨_,(z_e (z_v (i:=4) sc_look_nows.nd rfl (Or.inl rfl) (z_j G_classes_of (hr.mono (by first | decide | lia)) rfl T.M_classes_of T.F_classes_of.kp T.B_classes_of .nil pass0 (z_a (z_j G_now_net (hr.mono (by first | decide | lia)) rfl T.M_now_net T.F_now_net.kp T.B_now_net .nil pass0 (z_a (pv 0) z_b)) z_b)))
  (z_e (x_q PassesOwn.never rfl (l_h (y_d (pv 1)) (v_j (pv 1))) (y_x rfl (z_u (z_t (i:=5) sc_look_nows.nd rfl (Or.inl rfl)) (z_u (z_t (i:=6) sc_look_nows.nd rfl (Or.inl rfl)) y_o)))
    (z_h (y_l (x_o (pv 4) T.cl_Classes T.me_Classes_join G_Classes_join (hr.mono (by first | decide | lia)) T.B_Classes_join .nil pass0 (z_a (pv 5) (z_a (pv 6) z_b))))))
  (z_e (y_l (z_j G_take_steps (hr.mono (by first | decide | lia)) rfl T.M_take_steps T.F_take_steps.kp T.B_take_steps .nil pass0 (z_a (z_j G_now_net (hr.mono (by first | decide | lia)) rfl T.M_now_net T.F_now_net.kp T.B_now_net .nil pass0 (z_a (pv 0) z_b)) (z_a (pv 4) (z_a (pv 3) (z_a n_i z_b))))))
  (z_h (x_q PassesOwn.never rfl (l_h (y_d (pv 2)) (v_j (pv 2))) (y_x rfl (z_u (z_t (i:=5) sc_look_nows.nd rfl (Or.inl rfl)) (z_u (z_t (i:=6) sc_look_nows.nd rfl (Or.inl rfl)) y_o)))
    (z_h (x_j (v_g (y_w (x_o (pv 4) T.cl_Classes T.me_Classes_alike G_Classes_alike (hr.mono (by first | decide | lia)) T.B_Classes_alike .nil pass0 (z_a (pv 5) (z_a (pv 6) z_b))) (fun _=>rfl))) (z_h v_f) y_c))))))),?_⟩
 have hgo:GateOk (1+(W.ins+W.boxes.length)) W.gates:=by
  have:=ok.gate
  rw [W.first_is,Nat.add_assoc] at this
  exact this
 have eG:=o_k hgo
 have hG:=o_r hgo
 have gl:(nG W.gates).length=W.gates.length:=v_l _
 have hk:=W.knots_is
 obtain ⟨n,hn⟩:∃ n,n=1+(W.ins+W.boxes.length)+(nG W.gates).length:=⟨_,rfl⟩
 have hn2:W.knots=n:=by lia
 obtain ⟨R1,R2,hKR,hRS,hal⟩:=hOk
 rw [hn2] at hKR hRS
 refine ⟨_,rfl,w,b,g,o,W,rfl,hW,ok,fun p1 g1 rs1 H1 hp1 hg1 _ s1 hN1=>⟨p1,g1,rs1,W.ins+W.boxes.length,n,nG W.gates,rfl,by rw [eG];exact hN1,hn,by lia,fun oo l H2 hl s2 hC=>?_⟩⟩
 have s02:=s1.trans s2
 have fl:=s1.free hl
 obtain ⟨kb,ars,hp,hpr⟩:=hK.ex
 have hlen:ars.length=kept.length:=hpr.length
 dsimp only [gName]
 refine w_l (fun σ J=>∃ (x5 x6:Option V),σ=[some (.ref w),some (.ref kp),some (.ref gp),some (.ref sp),some (.ref oo),x5,x6]/\Same H J/\ClsAt A.c_Classes J oo l n R1) (fun D hD=>?_) ?_
 ·refine s_o (fun N hN=>⟨_,rfl,hN⟩) (s02 _ _ hp) (fun i σ J=>∃ (x5 x6:Option V) (Ri:Nat->Nat),σ=[some (.ref w),some (.ref kp),some (.ref gp),some (.ref sp),some (.ref oo),x5,x6]/\Same H J/\ClsAt A.c_Classes J oo l n Ri/\KRun n Ri (kept.drop i) R1) ⟨_,_,id,rfl,s02,hC,hKR⟩ ?_ ?_ ?_
  ·rintro i σ J ⟨_,_,_,_,sJ,_⟩
   exact sJ _ _ hp
  ·rintro i v σ J hv ⟨x5,x6,Ri,rfl,sJ,CJ,hRi⟩
   rw [List.getElem?_map] at hv
   obtain ⟨rr,hrr,rfl⟩:=Option.map_eq_some_iff.mp hv
   obtain ⟨pr,hpk,e1⟩:=y_v (R:=fun r (q:Nat×Nat)=>H r=some (.tup [.int (q.1:Int),.int (q.2:Int)])) hpr hrr
   have hil:=(List.getElem?_eq_some_iff.mp hpk).1
   obtain ⟨pa,pb⟩:=pr
   rw [List.drop_eq_getElem_cons hil,(List.getElem?_eq_some_iff.mp hpk).2] at hRi
   cases hRi with
   | cons ha hb h1 h2 hrest =>
   obtain ⟨dx2,ho2⟩:=CJ.1
   refine ⟨rr,_,rfl,SqT.of (sJ _ _ e1),rfl,_,_,rfl,_,_,rfl,rfl,?_⟩
   refine ⟨_,rfl,oo,dx2,_,rfl,ho2,t_d (by decide),_,rfl,_,rfl,oo,l,n,Ri,pa,pb,rfl,CJ,by lia,by lia,.inr (.inr ⟨h1,h2,fun J3 c3 C3=>?_⟩)⟩
   exact ⟨_,_,_,rfl,Ch.same fl sJ c3,C3,hrest⟩
  ·rintro σ J ⟨x5,x6,Ri,rfl,sJ,CJ,hRi⟩
   rw [List.length_map,hlen,List.drop_length] at hRi
   cases hRi
   exact hD _ _ ⟨_,_,rfl,sJ,CJ⟩
 rintro σ J ⟨x5,x6,rfl,sJ,CJ⟩
 refine ⟨_,rfl,w,b,g,o,W,rfl,hW.same sJ,ok,fun p2 g2 rs2 H3 hp2 hg2 _ s3 hN3=>?_⟩
 have s03:=sJ.trans s3
 obtain ⟨⟨LL,hLL⟩,_⟩:=CJ.lst
 have ng2:g2≠l:=(z_i hLL hg2).symm
 have nsp:sp≠l:=by
  obtain ⟨kb,ars,h,_⟩:=hSt.ex
  exact z_i h fl
 refine ⟨_,rfl,_,rfl,p2,g2,oo,l,sp,rs2,W.ins+W.boxes.length,n,nG W.gates,R1,R2,ss,_,rfl,by rw [eG];exact hN3,hG,hn,by lia,CJ.same s3,hSt.same s03,ng2,nsp,hRS,s03 _ _ hP,fun H4 c4 C4=>?_⟩
 have s04:=Ch.same fl s03 c4
 obtain ⟨kb2,ars2,hp2',hpr2⟩:=hGo.ex
 refine s_o (fun N hN=>⟨_,rfl,hN⟩) (s04 _ _ hp2') (fun i σ J=>∃ (x5 x6:Option V),σ=[some (.ref w),some (.ref kp),some (.ref gp),some (.ref sp),some (.ref oo),x5,x6]/\Same H J/\ClsAt A.c_Classes J oo l n R2) ⟨_,_,rfl,s04,C4⟩ ?_ ?_ ?_
 ·rintro i σ J ⟨_,_,_,sJ,_⟩
  exact sJ _ _ hp2'
 ·rintro i v σ J hv ⟨x5,x6,rfl,sJ,CJ⟩
  rw [List.getElem?_map] at hv
  obtain ⟨rr,hrr,rfl⟩:=Option.map_eq_some_iff.mp hv
  obtain ⟨pr,hpk,e1⟩:=y_v (R:=fun r (q:Nat×Nat)=>H r=some (.tup [.int (q.1:Int),.int (q.2:Int)])) hpr2 hrr
  obtain ⟨lx,ly,exy⟩:=hal _ (List.mem_of_getElem? hpk)
  obtain ⟨dx2,ho2⟩:=CJ.1
  refine ⟨rr,_,rfl,SqT.of (sJ _ _ e1),rfl,_,_,rfl,_,_,rfl,rfl,?_⟩
  refine ⟨_,rfl,oo,dx2,_,rfl,ho2,t_d (by decide),_,rfl,_,rfl,oo,l,n,R2,pr.1,pr.2,rfl,CJ,by lia,by lia,fun J2 ch2 C2=>⟨_,rfl,x_d (by rw [decide_eq_true exy];rfl) ?_⟩⟩
  exact ⟨_,_,rfl,Ch.same fl sJ ch2,C2⟩
 ·rintro σ J ⟨_,_,_,sJ,_⟩
  exact q J sJ
theorem p_f(T:Tx w K mg A)(G_look_starts:FnOk P w K mg base CX0 7 A.a_look_starts A.d_look_starts ["work", "kept", "steps"] (n_z A.c_Classes A.tp_bits_of_both z_q z_n))(G_look_nexts:FnOk P w K mg base CX0 7 A.a_look_nexts A.d_look_nexts ["work", "kept", "steps"] (k_x A.c_Classes A.tp_bits_of_both z_q z_n))(G_look_nows:FnOk P w K mg base CX0 7 A.a_look_nows A.d_look_nows ["work", "kept", "goals", "steps"] (f_j A.c_Classes A.tp_bits_of_both z_q z_n))(G_is_pair:FnOk P w K mg base CX0 4 A.a_is_pair A.d_is_pair ["thing", "knots"] q_a)(G_knots_in:FnOk P w K mg base CX0 1 A.a_knots_in A.d_knots_in ["work"] k_w):FnOk P w K mg base CX0 8 A.a_look_paper A.d_look_paper ["work", "goals", "paper"] (p_s A.c_Classes A.tp_bits_of_both z_q z_n):=by
 refine T.F_look_paper.ok sc_look_paper (fun vs H Q E h=>?_) (fun cdv A' outer s H vs Q E hr h=>?_)
 ·obtain ⟨w,b,g,o,gp,p,W,kept,goals,s2,s3,rfl,hW,ok,h400,hGo,hPp,hOk,hP,q⟩:=h
  rfl
 obtain ⟨w,b,g,o,gp,p,W,kept,goals,s2,s3,rfl,hW,ok,h400,hGo,hPp,hOk,hP,q⟩:=h
 refine ⟨_,(z_e (x_j (PW.pt (r_p (v_g (y_w (z_m (x_t (T := "tuple")) rfl T.isinstance PyProof.Rows.boot_isinstance (z_a (pv 2) (z_a (u_c (v:=.ty "tuple") rfl T.tuple PyProof.Rows.boot_tuple rfl) z_b))) (fun _=>rfl))) (r_p (z_z g_j (z_m z_s rfl T.len PySem.boot_len (z_a (pv 2) z_b)) z_c (nomark _)) (s_f (v_g (y_w (z_m o_c rfl T.all PyProof.Rows.boot_all (z_a (y_s [] (fun _ _ h=>h) rfl (v_j (pv 2)) (fun _ _ _ _=>y_a) (fun _ _ _ _=>(z_m (j_g (K:=K) rfl (S := "list") (T := "tuple")) rfl T.isinstance PyProof.Rows.boot_isinstance (z_a (pv 0) (z_a (y_e (z_a (u_c (v:=.ty "list") rfl T.list PyProof.Rows.boot_list rfl) (z_a (u_c (v:=.ty "tuple") rfl T.tuple PyProof.Rows.boot_tuple rfl) z_b))) z_b)))) rfl (show ∀ j∈([]:List Nat),j<6 by decide) (show (["part"]:List Str).Nodup by decide +kernel)) z_b)) (fun _=>rfl))))))) (z_h v_f) y_c)
  (z_e (z_v (i:=3) sc_look_paper.nd rfl (Or.inl rfl) (z_l ix_tup0 (pv 2) z_c (fun _ _=>rfl)))
  (z_e (x_q PassesOwn.never rfl (l_h (l_g rfl T.enumerate (z_a (pv 3) z_b)) (p_j rfl T.enumerate (z_a (pv 3) z_b))) (y_x rfl (z_u (z_t (i:=4) sc_look_paper.nd rfl (Or.inl rfl)) (z_u (z_t (i:=5) sc_look_paper.nd rfl (Or.inl rfl)) y_o)))
    (z_h (x_j (v_g (y_w (z_j G_is_pair (hr.mono (by first | decide | lia)) rfl T.M_is_pair T.F_is_pair.kp T.B_is_pair .nil pass0 (z_a (pv 5) (z_a (z_j G_knots_in (hr.mono (by first | decide | lia)) rfl T.M_knots_in T.F_knots_in.kp T.B_knots_in .nil pass0 (z_a (pv 0) z_b)) z_b))) (fun _=>rfl))) (z_h v_f) y_c)))
  (z_e (y_l (z_j G_look_starts (hr.mono (by first | decide | lia)) rfl T.M_look_starts T.F_look_starts.kp T.B_look_starts .nil pass0 (z_a (pv 0) (z_a (pv 3) (z_a (z_l ix_tup0 (pv 2) z_c (fun _ _=>rfl)) z_b)))))
  (z_e (y_l (z_j G_look_nexts (hr.mono (by first | decide | lia)) rfl T.M_look_nexts T.F_look_nexts.kp T.B_look_nexts .nil pass0 (z_a (pv 0) (z_a (pv 3) (z_a (z_l ix_tup0 (pv 2) z_c (fun _ _=>rfl)) z_b)))))
  (z_h (y_l (z_j G_look_nows (hr.mono (by first | decide | lia)) rfl T.M_look_nows T.F_look_nows.kp T.B_look_nows .nil pass0 (z_a (pv 0) (z_a (pv 3) (z_a (pv 1) (z_a (z_l ix_tup0 (pv 2) z_c (fun _ _=>rfl)) z_b)))))))))))),?_⟩
 obtain ⟨a1,a2,a3,a4,hp,hk,h2,h3,h4⟩:=hPp
 obtain ⟨hkb,hst,hnx,hnw⟩:=hOk
 refine ⟨_,rfl,_,_,true,rfl,TyOf.tup hp,rfl,_,rfl,x_d rfl ?_⟩
 refine ⟨_,rfl,_,_,rfl,.inr ⟨_,SqT.of hp,rfl⟩,rfl,_,rfl,x_d (by show (!decide (V.int ((4:Nat):Int)=V.int 4))=false;decide) ?_⟩
 have ty:∀ {J:Hp} {a:Addr},(∃ kb xs,J a=some (sqO kb xs))->∃ t,TyOf K J (.ref a) t/\kitAny K t [.type "list",.type "tuple"]=some true:=fun {J a} h=>by
  obtain ⟨kb,xs,h⟩:=h
  cases kb with
  | true=>exact ⟨_,TyOf.lst h,rfl⟩
  | false=>exact ⟨_,TyOf.tup h,rfl⟩
 have sq:∀ a∈[a1,a2,a3,a4],∃ kb xs,H a=some (sqO kb xs):=fun a ha=>by
  simp only [List.mem_cons,List.not_mem_nil,or_false] at ha
  rcases ha with rfl | rfl | rfl | rfl
  ·obtain ⟨kb,rs,h,_⟩:=hk.ex;exact ⟨kb,_,h⟩
  ·obtain ⟨kb,rs,h,_⟩:=h2.ex;exact ⟨kb,_,h⟩
  ·obtain ⟨kb,rs,h,_⟩:=h3.ex;exact ⟨kb,_,h⟩
  ·obtain ⟨kb,rs,h,_⟩:=h4.ex;exact ⟨kb,_,h⟩
 refine ⟨_,rfl,p,rfl,⟨_,SqT.of hp⟩,u_z (xs:=[.ref a1,.ref a2,.ref a3,.ref a4]) (fun i ys J=>Same H J/\ys=List.replicate i (V.bl true)) ⟨Same.refl H,rfl⟩ ?_ ?_ ?_ ?_⟩
 ·rintro i ys J _ ⟨sJ,_⟩
  exact SqT.of (sJ _ _ hp)
 ·rintro i ys J hi ⟨_,rfl⟩
  rw [List.length_replicate]
  exact y_b (by have:i<4:=hi;lia)
 ·rintro i v ys J hv ⟨sJ,rfl⟩
  have hm:∃ a∈[a1,a2,a3,a4],v = .ref a:=by
   have:=List.mem_of_getElem? hv
   simp only [List.mem_cons,List.not_mem_nil,or_false] at this
   rcases this with rfl | rfl | rfl | rfl
   ·exact ⟨a1,by simp,rfl⟩
   ·exact ⟨a2,by simp,rfl⟩
   ·exact ⟨a3,by simp,rfl⟩
   ·exact ⟨a4,by simp,rfl⟩
  obtain ⟨a,ha,rfl⟩:=hm
  obtain ⟨kb,xs,hx⟩:=sq a ha
  unfold tYes
  refine iteT ⟨_,rfl,zl2,fun t2 ht2=>?_⟩
  have t1:=z_f ht2 (.tup [.ty "list",.ty "tuple"])
  obtain ⟨t,ht,hkt⟩:=ty (J:=upd J t2 (.tup [.ty "list",.ty "tuple"])) ⟨kb,xs,t1 _ _ (sJ _ _ hx)⟩
  exact ⟨_,t2,t,true,rfl,z_d,ht,hkt,sJ.trans t1,by rw [List.replicate_succ']⟩
 rintro ys J ⟨sJ,rfl⟩ pb hpb
 refine ⟨rfl,pb,List.replicate 4 true,rfl,SqL.of (by rw [z_d];rfl),_,rfl,x_d (by decide) ?_⟩
 have s1:=sJ.trans (z_f hpb (.lst (List.replicate [V.ref a1,.ref a2,.ref a3,.ref a4].length (V.bl true))))
 generalize upd J pb (.lst (List.replicate [V.ref a1,.ref a2,.ref a3,.ref a4].length (V.bl true)))=H1 at s1 ⊢
 refine ⟨_,rfl,p,_,_,_,rfl,rfl,SqT.of (s1 _ _ hp),rfl,?_⟩
 obtain ⟨kb,ars,hpk,hpr⟩:=hk.ex
 dsimp only [gName]
 refine w_l (fun σ J=>∃ (x4 x5:Option V),σ=[some (.ref w),some (.ref gp),some (.ref p),some (.ref a1),x4,x5]/\Same H J) (fun D hD=>?_) ?_
 ·refine r_b (fun N hN=>⟨_,rfl,hN⟩) (s1 _ _ hpk) (fun i σ J=>∃ (x4 x5:Option V),σ=[some (.ref w),some (.ref gp),some (.ref p),some (.ref a1),x4,x5]/\Same H J) ⟨_,_,rfl,s1⟩ ?_ ?_ (fun σ J h=>hD σ J h)
  ·rintro i σ J ⟨_,_,_,sJ⟩
   exact sJ _ _ hpk
  ·rintro i v pe σ J hv ⟨x4,x5,rfl,sJ⟩ hpe
   rw [List.getElem?_map] at hv
   obtain ⟨rr,hrr,rfl⟩:=Option.map_eq_some_iff.mp hv
   obtain ⟨pr,hpk',e1⟩:=y_v (R:=fun r (q:Nat×Nat)=>H r=some (.tup [.int (q.1:Int),.int (q.2:Int)])) hpr hrr
   obtain ⟨l1,l2⟩:=hkb _ (List.mem_of_getElem? hpk')
   have s2':=sJ.trans (z_f hpe (.tup [.int (i:Int),.ref rr]))
   refine ⟨pe,_,rfl,SqT.of z_d,rfl,_,_,rfl,_,_,rfl,rfl,?_⟩
   refine ⟨_,rfl,_,rfl,w,b,g,o,W,rfl,hW.same s2',rr,pr,W.knots,rfl,s2' _ _ e1,l1,l2,_,rfl,x_d rfl ?_⟩
   exact ⟨_,_,rfl,s2'⟩
 rintro σ J2 ⟨x4,x5,rfl,sJ2⟩
 refine ⟨_,rfl,_,rfl,_,rfl,p,_,_,_,rfl,rfl,SqT.of (sJ2 _ _ hp),rfl,w,b,g,o,a1,a2,W,kept,rfl,hW.same sJ2,ok,h400,hk.same sJ2,h2.same sJ2,hst,sJ2 _ _ hP,fun J3 s3'=>?_⟩
 have sJ3:=sJ2.trans s3'
 refine ⟨_,rfl,_,rfl,_,rfl,p,_,_,_,rfl,rfl,SqT.of (sJ3 _ _ hp),rfl,w,b,g,o,a1,a3,W,kept,s2,rfl,hW.same sJ3,ok,h400,hk.same sJ3,h3.same sJ3,hnx,sJ3 _ _ hP,fun J4 s4'=>?_⟩
 have sJ4:=sJ3.trans s4'
 refine ⟨_,rfl,_,rfl,_,rfl,_,rfl,p,_,_,_,rfl,rfl,SqT.of (sJ4 _ _ hp),rfl,w,b,g,o,a1,gp,a4,W,kept,goals,s3,rfl,hW.same sJ4,ok,h400,hk.same sJ4,hGo.same sJ4,h4.same sJ4,hnw,sJ4 _ _ hP,fun J5 s5'=>?_⟩
 exact q J5 (sJ4.trans s5')
theorem n_c(T:Tx w K mg A):FnOk P w K mg base CX0 1 A.a_look_pair A.d_look_pair ["one", "other"] t_z:=by
 refine T.F_look_pair.ok n_q (fun vs H Q E h=>?_) (fun cdv A' outer s H vs Q E hr h=>?_)
 ·obtain ⟨w,b,g,o,w2,b2,g2,o2,A1,B1,rfl,hA,hB,hi,ho,q⟩:=h
  rfl
 obtain ⟨w,b,g,o,w2,b2,g2,o2,A1,B1,rfl,hA,hB,hi,ho,q⟩:=h
 refine ⟨_,(z_h (x_j (PW.pt (r_p (z_z g_j (z_l ix_tup0 (pv 0) z_c (fun _ _=>rfl)) (z_l ix_tup0 (pv 1) z_c (fun _ _=>rfl)) (nomark _)) (s_f (z_z g_j (z_m z_s rfl T.len PySem.boot_len (z_a (z_l ix_tup0 (pv 0) z_c (fun _ _=>rfl)) z_b)) (z_m z_s rfl T.len PySem.boot_len (z_a (z_l ix_tup0 (pv 1) z_c (fun _ _=>rfl)) z_b)) (nomark _))))) (z_h v_f) y_c)),?_⟩
 refine ⟨_,rfl,w,_,_,_,rfl,rfl,SqT.of hA.w,rfl,_,rfl,w2,_,_,_,rfl,rfl,SqT.of hB.w,rfl,rfl,_,rfl,x_d (by rw [hi,decide_eq_true rfl];rfl) ?_⟩
 refine ⟨_,rfl,w,_,_,_,rfl,rfl,SqT.of hA.w,rfl,_,_,rfl,.inl ⟨_,SqL.of hA.o,rfl⟩,_,rfl,w2,_,_,_,rfl,rfl,SqT.of hB.w,rfl,_,_,rfl,.inl ⟨_,SqL.of hB.o,rfl⟩,rfl,_,rfl,x_d (by rw [List.length_map,List.length_map,ho,decide_eq_true rfl];rfl) q⟩
theorem l_b(T:Tx w K mg A)(G_look_pair:FnOk P w K mg base CX0 1 A.a_look_pair A.d_look_pair ["one", "other"] t_z)(G_look_paper:FnOk P w K mg base CX0 8 A.a_look_paper A.d_look_paper ["work", "goals", "paper"] (p_s A.c_Classes A.tp_bits_of_both z_q z_n))(G_beside:FnOk P w K mg base CX0 2 A.a_beside A.d_beside ["one", "other"] n_y)(G_first_end:FnOk P w K mg base CX0 1 A.a_first_end A.d_first_end ["one", "other", "end"] u_v)(G_second_end:FnOk P w K mg base CX0 1 A.a_second_end A.d_second_end ["one", "other", "end"] u_f):FnOk P w K mg base CX0 9 A.a_look_two A.d_look_two ["one", "other", "paper"] (q_b A.c_Classes A.tp_bits_of_both z_q z_n):=by
 refine T.F_look_two.ok sc_look_two (fun vs H Q E h=>?_) (fun cdv A' outer s H vs Q E hr h=>?_)
 ·obtain ⟨w,b,g,o,w2,b2,g2,o2,p,A1,B1,goals,kept,s2,s3,rfl,hA,hB,okA,okB,hi,ho,ok,h400,hPp,hGo,hOk,hP,q⟩:=h
  rfl
 obtain ⟨w,b,g,o,w2,b2,g2,o2,p,A1,B1,goals,kept,s2,s3,rfl,hA,hB,okA,okB,hi,ho,ok,h400,hPp,hGo,hOk,hP,q⟩:=h
 refine ⟨_,(z_e (y_l (z_j G_look_pair (hr.mono (by first | decide | lia)) rfl T.M_look_pair T.F_look_pair.kp T.B_look_pair .nil pass0 (z_a (pv 0) (z_a (pv 1) z_b))))
  (z_e (s_u ["a", "b"] [0,1] sc_look_two.nd (i:=3) rfl (Or.inl rfl) (fun _ _ h=>h) rfl (g_r rfl T.zip (z_a (z_l ix_tup0 (pv 0) z_c (fun _ _=>rfl)) (z_a (z_l ix_tup0 (pv 1) z_c (fun _ _=>rfl)) z_b))) (fun _ _ _ _=>(y_x rfl (z_u (z_t (i:=0) (show (["a", "b", "one", "other"]:List Str).Nodup by decide +kernel) rfl (Or.inl rfl)) (z_u (z_t (i:=1) (show (["a", "b", "one", "other"]:List Str).Nodup by decide +kernel) rfl (Or.inl rfl)) y_o)))) w_q (fun _ _ _ _=>y_a) (fun _ _ _ _=>(y_e (z_a (z_j G_first_end (hr.mono (by first | decide | lia)) rfl T.M_first_end T.F_first_end.kp T.B_first_end .nil pass0 (z_a (pv 2) (z_a (pv 3) (z_a (pv 0) z_b)))) (z_a (z_j G_second_end (hr.mono (by first | decide | lia)) rfl T.M_second_end T.F_second_end.kp T.B_second_end .nil pass0 (z_a (pv 2) (z_a (pv 3) (z_a (pv 1) z_b)))) z_b)))) rfl (show ∀ j∈([0,1]:List Nat),j<4 by decide) (by with_unfolding_all rfl))
  (z_h (y_l (z_j G_look_paper (hr.mono (by first | decide | lia)) rfl T.M_look_paper T.F_look_paper.kp T.B_look_paper .nil pass0 (z_a (z_j G_beside (hr.mono (by first | decide | lia)) rfl T.M_beside T.F_beside.kp T.B_beside .nil pass0 (z_a (pv 0) (z_a (pv 1) z_b))) (z_a (pv 3) (z_a (pv 2) z_b)))))))),?_⟩
 have lo:=okA.outs
 refine ⟨_,rfl,_,rfl,w,b,g,o,w2,b2,g2,o2,A1,B1,rfl,hA,hB,hi,ho,?_⟩
 refine ⟨_,rfl,w,_,_,_,rfl,rfl,SqT.of hA.w,rfl,_,rfl,w2,_,_,_,rfl,rfl,SqT.of hB.w,rfl,o,o2,rfl,⟨_,SqL.of hA.o⟩,⟨_,SqL.of hB.o⟩,comp_zip (xs:=A1.outs.map V.int) (us:=B1.outs.map V.int) (fun i ys J=>Same H J/\∃ rs:List Addr,ys=rs.map V.ref/\Paired (fun r (q:Int×Int)=>J r=some (.tup [.int q.1,.int q.2])) rs (((A1.outs.zip B1.outs).map fun q=>(F1 A1 B1 q.1,F2 A1 B1 q.2)).take i)) ⟨Same.refl H,[],rfl,.nil⟩ ?_ (by rw [List.length_map,List.length_map,ho]) ?_ ?_ ?_⟩
 ·rintro i ys J _ ⟨sJ,_⟩
  exact ⟨SqL.of (sJ _ _ hA.o),SqL.of (sJ _ _ hB.o)⟩
 ·rintro i ys J hi' ⟨_,rs,rfl,hpr⟩
  have:=hpr.length
  rw [List.length_take] at this
  rw [List.length_map] at hi' ⊢
  exact y_b (by lia)
 ·rintro i x y pz ys J os hos hx hy ⟨sJ,rs,rfl,hpr⟩ hpz
  rw [List.getElem?_map] at hx hy
  obtain ⟨xa,hxa,rfl⟩:=Option.map_eq_some_iff.mp hx
  obtain ⟨yb,hyb,rfl⟩:=Option.map_eq_some_iff.mp hy
  obtain ⟨o0,o1,rfl⟩:∃ a b,os=[a,b]:=two_ex hos
  have t1:=z_f hpz (.tup [.int xa,.int yb])
  have s1:=sJ.trans t1
  refine ⟨pz,_,rfl,SqT.of z_d,rfl,_,_,rfl,_,_,rfl,rfl,?_⟩
  dsimp only [gName]
  unfold tYes
  refine iteT ⟨_,rfl,_,rfl,_,rfl,w,b,g,o,w2,b2,g2,o2,A1,B1,xa,rfl,hA.same s1,hB.same s1,_,rfl,_,rfl,_,rfl,w,b,g,o,w2,b2,g2,o2,A1,B1,yb,rfl,hA.same s1,hB.same s1,hi,zl2,fun t ht=>?_⟩
  have t2:=z_f ht (.tup [.int (F1 A1 B1 xa),.int (F2 A1 B1 yb)])
  refine ⟨s1.trans t2,rs++[t],by rw [List.map_append];rfl,?_⟩
  rw [y_u (x:=(F1 A1 B1 xa,F2 A1 B1 yb)) (by rw [List.getElem?_map,(List.getElem?_zip_eq_some (z:=(xa,yb))).mpr ⟨hxa,hyb⟩];rfl)]
  refine x_g ?_ (z_w (fun _ _ e=>t2 _ _ (t1 _ _ e)) hpr)
  exact z_d
 rintro ys J ⟨sJ,rs,rfl,hpr⟩ pg hpg
 have t1:=z_f hpg (.lst (rs.map V.ref))
 have fg:=z_d (H:=J) (a:=pg) (o:=.lst (rs.map V.ref))
 have s1:=sJ.trans t1
 dsimp only [gName]
 generalize upd J pg (.lst (rs.map V.ref))=J1 at t1 fg s1 ⊢
 rw [List.length_map,List.take_of_length_le (by rw [List.length_map,List.length_zip];lia),<-hGo] at hpr
 have hpr1:Paired (fun r (q:Nat×Nat)=>J1 r=some (.tup [.int (q.1:Int),.int (q.2:Int)])) rs goals:=by
  unfold gI at hpr
  exact z_w (fun r q e=>t1 _ _ e) (pairedUnmap (R:=fun r (q:Int×Int)=>J r=some (.tup [.int q.1,.int q.2])) (f:=fun p:Nat×Nat=>((p.1:Int),(p.2:Int))) hpr)
 have hG1:PrsA J1 pg goals:=⟨true,rs,fg,hpr1⟩
 refine ⟨_,rfl,_,rfl,w,b,g,o,w2,b2,g2,o2,A1,B1,rfl,hA.same s1,hB.same s1,okA,okB,hi,fun pj qj rj tj J2 _ _ _ _ _ _ _ s2' hJ=>?_⟩
 have s02:=s1.trans s2'
 have hPp2:PaperA J2 p kept s2 s3:=by
  obtain ⟨a1,a2,a3,a4,h,h1,h2,h3,h4⟩:=hPp
  exact ⟨a1,a2,a3,a4,s02 _ _ h,h1.same s02,h2.same s02,h3.same s02,h4.same s02⟩
 exact ⟨_,rfl,_,rfl,pj,qj,rj,tj,pg,p,bes A1 B1,kept,goals,s2,s3,rfl,hJ,ok,h400,hG1.same s2',hPp2,hOk,s02 _ _ hP,fun J3 s3'=>q J3 (s02.trans s3')⟩
theorem ok_L_row(T:Tx w K mg A):FnOk P w K mg base CX0 1 A.a_L_row A.d_L_row ["_law_script", "_law_at", "_law_many"] (n_w K):=by
 refine T.F_L_row.ok sc_L_row (fun vs H Q E h=>?_) (fun cdv A' outer s H vs Q E hr h=>?_)
 ·obtain ⟨a,ns,i,n,rfl,hS,h63,hi,hn,hn2,q⟩:=h
  rfl
 obtain ⟨a,ns,i,n,rfl,hS,h63,hi,hn,hn2,q⟩:=h
 refine ⟨_,(z_e (z_v (i:=3) sc_L_row.nd rfl (Or.inl rfl) z_c)
  (z_e (x_j (z_z l_e (pv 1) (z_m u_x rfl T.len PySem.boot_len (z_a (pv 0) z_b)) (nomark _)) (z_h (z_v (i:=3) sc_L_row.nd rfl (Or.inl rfl) (z_l u_a (pv 0) (pv 1) (fun _ _=>rfl)))) y_c)
  (z_e (z_v (i:=4) sc_L_row.nd rfl (Or.inl rfl) (z_m l_u rfl T.abs PyProof.Rows.boot_abs (z_a (pv 3) z_b)))
  (z_e (z_v (i:=5) sc_L_row.nd rfl (Or.inl rfl) (u_k op_ge (pv 4) (z_k k_h z_c z_c) (nomark _)))
  (z_e (z_v (i:=6) sc_L_row.nd rfl (Or.inl rfl) (x_i z_b))
  (z_e (x_q PassesOwn.never rfl (y_j rfl T.range (z_a (pv 2) z_b)) (z_t (i:=7) sc_L_row.nd rfl (Or.inl rfl))
    (z_h (x_j (PW.pt (pw_and (k_l (pv 5) (fun _=>rfl)) (g_v (z_z op_gt (pv 4) z_c (nomark _))))) (z_e (y_l (pe_bm PySem.F.plainAttrs_list PySem.F.slot_list_append PySem.F.type_list_append x_a (pv 6) (z_a (z_k x_m (pv 4) (z_k k_h z_c z_c)) z_b)))
  (z_h (z_v (i:=4) sc_L_row.nd rfl (Or.inl rfl) (z_k y_n (pv 4) (z_k k_h z_c z_c))))) (z_e (z_v (i:=8) sc_L_row.nd rfl (Or.inl rfl) (z_k z_x (z_k z_x (z_k z_x (z_k z_x (z_k x_m (z_m l_u rfl T.abs PyProof.Rows.boot_abs (z_a (pv 3) z_b)) z_c) (z_k y_h (z_k y_h z_c (pv 7)) (pv 7))) (z_k y_h z_c (pv 1))) (z_k y_h z_c (pv 7))) z_c))
  (z_e (z_v (i:=8) sc_L_row.nd rfl (Or.inl rfl) (z_k x_m (z_k y_h (pv 8) z_c) z_c))
  (z_h (y_l (pe_bm PySem.F.plainAttrs_list PySem.F.slot_list_append PySem.F.type_list_append x_a (pv 6) (z_a (z_k x_m (z_k z_x (z_k x_m (z_k y_h (pv 8) (pv 8)) z_c) (z_k y_n (pv 8) z_c)) (z_k k_h z_c z_c)) z_b)))))))))
  (z_h (z_y (pv 6))))))))),?_⟩
 have hl:(ns.map V.int).length=ns.length:=List.length_map _
 refine w_l (fun σ J=>σ=[some (.ref a),some (.int i),some (.int n),some (.int 0),none,none,none,none,none]/\H=J) (fun D hD=>hD _ _ ⟨rfl,rfl⟩) ?_
 rintro σ J ⟨rfl,rfl⟩
 refine w_l (fun σ J=>σ=[some (.ref a),some (.int i),some (.int n),some (.int (ns.getD i.toNat 0)),none,none,none,none,none]/\H=J) (fun D hD=>?_) ?_
 ·refine ⟨_,rfl,_,rfl,_,_,rfl,.inl ⟨_,hS,rfl⟩,_,_,rfl,rfl,_,rfl,?_⟩
  refine ite2 (fun c=>?_) (fun c=>?_)
  ·have c':i<(((ns.map V.int).length:Nat):Int):=of_decide_eq_true c
   rw [hl] at c'
   obtain ⟨cell,hv,_,hc⟩:=s_x hi c'
   subst hc
   exact ⟨_,rfl,_,rfl,a,_,_,_,rfl,rfl,hS,hv,hD _ _ ⟨rfl,rfl⟩⟩
  ·have c':¬i<(((ns.map V.int).length:Nat):Int):=fun h=>c (decide_eq_true h)
   rw [hl] at c'
   have e:ns.getD i.toNat 0=0:=by rw [List.getD_eq_getElem?_getD,List.getElem?_eq_none (by lia)];rfl
   rw [e] at hD
   exact hD _ _ ⟨rfl,rfl⟩
 rintro σ J ⟨rfl,rfl⟩
 have hrow:rowOf ns i n=(rwD (ns.getD i.toNat 0) i n.toNat).2:=rfl
 generalize ns.getD i.toNat 0=cell at hrow ⊢
 refine ⟨_,rfl,_,rfl,?_⟩
 refine ⟨_,rfl,_,_,rfl,rfl,⟨by decide,by decide,by decide⟩,_,_,rfl,rfl,?_⟩
 refine ⟨zl0,fun p hp=>?_⟩
 refine ⟨_,rfl,_,rfl,by lia,by lia,v_k (lo:=0) (RowInvD a p cell i n H) ⟨absI cell,[],none,none,rfl,by unfold absI;split<;>lia,rfl,(fun _ h=>nomatch h),z_f hp _,z_d,rfl⟩ ?_ ?_⟩
 ·rintro j σ H1 hj ⟨rest,rs,x,y,rfl,hr0,hrs,hd,hs1,hp1,hR⟩
  have hlen:(rs.map V.int).length<sizeLine:=by rw [List.length_map];exact y_b (by lia)
  have big:∀ (v rest':Int),0<=v->v<1000000->0<=rest'->rwD cell i (j+1)=(rest',rs++[v])->∀ (x' y':Option V),RowInvD a p cell i n H (j+1) [some (V.ref a),some (.int i),some (.int n),some (.int cell),some (.int rest'),some (.bl (decide (10^(18:Int).toNat<=absI cell))),some (.ref p),x',y'] (upd H1 p (.lst (rs.map V.int++[.int v]))):=fun v rest' h0 h1 hr' hR' x' y' =>
   ⟨rest',rs++[v],_,_,rfl,hr',by rw [List.length_append,hrs];rfl,hd.snoc h0 h1,x_c hs1 hp _,by rw [z_d,List.map_append];rfl,hR'⟩
  have low:¬(10^(18:Int).toNat<=absI cell/\0<rest)->∀ (x' y':Option V),RowInvD a p cell i n H (j+1) [some (V.ref a),some (.int i),some (.int n),some (.int cell),some (.int rest),some (.bl (decide (10^(18:Int).toNat<=absI cell))),some (.ref p),x',y'] (upd H1 p (.lst (rs.map V.int++[.int (rwM cell i j)]))):=fun c x' y' =>
   big _ _ (Int.emod_nonneg _ (by decide)) (Int.lt_of_lt_of_le (Int.emod_lt_of_pos _ (show (0:Int)<10^(6:Int).toNat by decide)) (by decide)) hr0 (rwD_lo hR c) x' y'
  refine ⟨_,rfl,_,rfl,?_⟩
  refine ite2 (fun c1=>?_) (fun c1=>?_)
  ·refine ⟨_,rfl,_,_,rfl,rfl,_,rfl,?_⟩
   refine ite2 (fun c2=>?_) (fun c2=>?_)
   ·refine ⟨_,rfl,.inl ⟨rfl,_,SqL.of hp1⟩,_,rfl,_,_,rfl,rfl,⟨by decide,by decide,by decide⟩,_,_,rfl,rfl,(by show (0:Int)<10^4;decide),p,_,_,rfl,rfl,hp1,hlen,?_⟩
    refine ⟨_,rfl,_,_,rfl,rfl,⟨by decide,by decide,by decide⟩,_,_,rfl,rfl,(by show (0:Int)<10^4/\(10:Int)^4<bigB;exact ⟨by decide,by decide⟩),?_⟩
    exact big _ _ (Int.emod_nonneg _ (by decide)) (Int.lt_trans (Int.emod_lt_of_pos rest (show (0:Int)<10^(4:Int).toNat by decide)) (by decide)) (Int.ediv_nonneg hr0 (show (0:Int)<=10^(4:Int).toNat by decide)) (rwD_hi hR (of_decide_eq_true c1) (of_decide_eq_true c2)) _ _
   ·refine ⟨_,rfl,_,rfl,_,_,rfl,rfl,(by show (0:Int)<1000003;decide),_,rfl,_,_,rfl,rfl,.inl ⟨by decide,by decide⟩,_,rfl,_,_,rfl,rfl,.inr ⟨by lia,by lia⟩,_,_,rfl,rfl,_,rfl,_,_,rfl,rfl,.inl ⟨by decide,by decide⟩,_,_,rfl,rfl,_,rfl,_,_,rfl,rfl,.inl ⟨by decide,by decide⟩,_,_,rfl,rfl,_,_,rfl,rfl,?_⟩
    refine ⟨_,rfl,_,_,rfl,rfl,.inr ⟨by decide,by decide⟩,_,_,rfl,rfl,(by show (0:Int)<2147483647;decide),?_⟩
    refine ⟨_,rfl,.inl ⟨rfl,_,SqL.of hp1⟩,_,rfl,_,rfl,_,_,rfl,rfl,.inl ⟨by lia,by lia⟩,_,_,rfl,rfl,(by show (0:Int)<2147483629;decide),_,rfl,_,_,rfl,rfl,⟨by decide,by decide⟩,_,_,rfl,rfl,_,_,rfl,rfl,⟨by decide,by decide,by decide⟩,_,_,rfl,rfl,(by show (0:Int)<10^6;decide),p,_,_,rfl,rfl,hp1,hlen,?_⟩
    exact low (fun h=>c2 (decide_eq_true h.2)) _ _
  ·refine iteF ?_
   refine ⟨_,rfl,_,rfl,_,_,rfl,rfl,(by show (0:Int)<1000003;decide),_,rfl,_,_,rfl,rfl,.inl ⟨by decide,by decide⟩,_,rfl,_,_,rfl,rfl,.inr ⟨by lia,by lia⟩,_,_,rfl,rfl,_,rfl,_,_,rfl,rfl,.inl ⟨by decide,by decide⟩,_,_,rfl,rfl,_,rfl,_,_,rfl,rfl,.inl ⟨by decide,by decide⟩,_,_,rfl,rfl,_,_,rfl,rfl,?_⟩
   refine ⟨_,rfl,_,_,rfl,rfl,.inr ⟨by decide,by decide⟩,_,_,rfl,rfl,(by show (0:Int)<2147483647;decide),?_⟩
   refine ⟨_,rfl,.inl ⟨rfl,_,SqL.of hp1⟩,_,rfl,_,rfl,_,_,rfl,rfl,.inl ⟨by lia,by lia⟩,_,_,rfl,rfl,(by show (0:Int)<2147483629;decide),_,rfl,_,_,rfl,rfl,⟨by decide,by decide⟩,_,_,rfl,rfl,_,_,rfl,rfl,⟨by decide,by decide,by decide⟩,_,_,rfl,rfl,(by show (0:Int)<10^6;decide),p,_,_,rfl,rfl,hp1,hlen,?_⟩
   exact low (fun h=>c1 (decide_eq_true h.1)) _ _
 ·rintro σ H1 ⟨rest,rs,x,y,rfl,hr0,hrs,hd,hs1,hp1,hR⟩
  exact ⟨_,rfl,q p rs H1 hp hs1 hp1 (by rw [hrs];lia) hd (by rw [hrow,hR])⟩
theorem g_d(T:Tx w K mg A):FnOk P w K mg base CX0 1 A.a_L_size A.d_L_size ["_law_number", "_law_many"] n_x:=by
 refine T.F_L_size.ok f_c (fun vs H Q E h=>?_) (fun cdv A' outer s H vs Q E hr h=>?_)
 ·obtain ⟨n,m,rfl,hn,hm,hm2,q⟩:=h
  rfl
 obtain ⟨n,m,rfl,hn,hm,hm2,q⟩:=h
 refine ⟨_,(z_h (z_y (z_k z_x (z_k x_m (pv 0) (pv 1)) (z_k y_h z_c (x_b i_u rfl T.int PyProof.Rows.boot_int (z_a (u_k s_l (z_k x_m (z_k y_n (pv 0) (pv 1)) z_c) z_c (nomark _)) z_b)))))),?_⟩
 exact ⟨_,rfl,_,rfl,_,_,rfl,rfl,hm,_,rfl,_,rfl,_,_,rfl,rfl,⟨hm,Int.lt_trans hm2 (by decide)⟩,_,_,rfl,rfl,(by show (0:Int)<8;decide),rfl,.inr ⟨_,rfl,_,_,rfl,rfl,.inl ⟨by decide,by decide⟩,_,_,rfl,rfl,q⟩⟩
theorem g_f(T:Tx w K mg A)(G_L_size:FnOk P w K mg base CX0 1 A.a_L_size A.d_L_size ["_law_number", "_law_many"] n_x):FnOk P w K mg base CX0 2 A.a_L_work A.d_L_work ["_law_row_here", "_law_sizes"] (r_z K):=by
 refine T.F_L_work.ok sc_L_work (fun vs H Q E h=>?_) (fun cdv A' outer s H vs Q E hr h=>?_)
 ·obtain ⟨a,z,rs,zs,rfl,hA,hZ,hrs,hd,hz4,hz0,q⟩:=h
  rfl
 obtain ⟨a,z,rs,zs,rfl,hA,hZ,hrs,hd,hz4,hz0,q⟩:=h
 refine ⟨_,(z_e (z_v (i:=2) sc_L_work.nd rfl (Or.inl rfl) (z_j G_L_size (hr.mono (by first | decide | lia)) rfl T.M_L_size T.F_L_size.kp T.B_L_size .nil pass0 (z_a (z_l u_a (pv 1) z_c (fun _ _=>rfl)) (z_a z_c z_b))))
  (z_e (z_v (i:=3) sc_L_work.nd rfl (Or.inl rfl) (z_j G_L_size (hr.mono (by first | decide | lia)) rfl T.M_L_size T.F_L_size.kp T.B_L_size .nil pass0 (z_a (z_l u_a (pv 1) z_c (fun _ _=>rfl)) (z_a z_c z_b))))
  (z_e (z_v (i:=4) sc_L_work.nd rfl (Or.inr rfl) (z_k z_x (z_k z_x z_c (pv 2)) (pv 3)))
  (z_e (z_v (i:=5) sc_L_work.nd rfl (Or.inl rfl) (x_i z_b))
  (z_e (x_q PassesOwn.never rfl (y_j rfl T.range (z_a (z_k x_m (z_l u_a (pv 1) z_c (fun _ _=>rfl)) z_c) z_b)) (z_t (i:=6) sc_L_work.nd rfl (Or.inl rfl))
    (z_e (y_l (pe_bm PySem.F.plainAttrs_list PySem.F.slot_list_append PySem.F.type_list_append x_a (pv 5) (z_a (y_e (z_a (z_k x_m (z_l u_a (pv 0) (z_k y_h z_c (pv 6)) (fun _ _=>rfl)) (z_k y_h z_c (pv 4))) (z_a (z_k x_m (z_l u_a (pv 0) (z_k z_x (z_k y_h z_c (pv 6)) z_c) (fun _ _=>rfl)) (z_k y_h z_c (pv 4))) z_b))) z_b)))
  (z_h (z_v (i:=4) sc_L_work.nd rfl (Or.inr rfl) (z_k z_x (pv 4) z_c)))))
  (z_e (u_m [0,4] sc_L_work.nd (i:=7) rfl (Or.inl rfl) (fun _ _ h=>h) rfl (y_j rfl T.range (z_a (pv 3) z_b)) (fun _ _ _ _=>y_a) (fun _ _ _ _=>(y_e (z_a (z_k x_m (z_l (t_l (K:=K) rfl) (pv 1) (z_k z_x z_c (z_k y_h z_c (pv 0))) (fun _ _=>rfl)) z_c) (z_a (z_k x_m (z_l (t_l (K:=K) rfl) (pv 1) (z_k z_x z_c (z_k y_h z_c (pv 0))) (fun _ _=>rfl)) (z_k y_h z_c (pv 2))) z_b)))) rfl (show ∀ j∈([0,4]:List Nat),j<8 by decide) (show (["_law_k", "_law_row_here", "_law_knots"]:List Str).Nodup by decide +kernel) (by with_unfolding_all rfl))
  (z_h (z_y (y_e (z_a (pv 2) (z_a (pv 7) (z_a (pv 5) (z_a (y_s [0,4] (fun _ _ h=>h) rfl (y_j rfl T.range (z_a (z_j G_L_size (hr.mono (by first | decide | lia)) rfl T.M_L_size T.F_L_size.kp T.B_L_size .nil pass0 (z_a (z_l u_a (pv 1) z_c (fun _ _=>rfl)) (z_a z_c z_b))) z_b)) (fun _ _ _ _=>y_a) (fun _ _ _ _=>(z_k x_m (z_l (t_l (K:=K) rfl) (pv 1) (z_k z_x z_c (pv 0)) (fun _ _=>rfl)) (z_k y_h z_c (pv 2)))) rfl (show ∀ j∈([0,4]:List Nat),j<8 by decide) (show (["_law_k", "_law_row_here", "_law_knots"]:List Str).Nodup by decide +kernel)) z_b))))))))))))),?_⟩
 have zat:∀ j:Int,0<=j->j<4->∃ v:Int,atI (zs.map V.int) j=some (.int v)/\0<=v:=fun j h0 h1=>by
  obtain ⟨v,h1,h2,_⟩:=s_x h0 (show j<zs.length by lia)
  exact ⟨v,h1,hz0 v h2⟩
 have rat:∀ j:Int,0<=j->j<60->∃ v:Int,atI (rs.map V.int) j=some (.int v)/\0<=v/\v<1000000:=fun j h0 h1=>hd.at h0 (by rw [hrs];exact h1)
 obtain ⟨z0,hz0',hz0m,hz0e⟩:=s_x (ns:=zs) (i:=0) (by decide) (by lia)
 have hz0p:=hz0 z0 hz0m
 have hz0e:z0=zs.getD 0 0:=hz0e
 obtain ⟨z1,hz1',hz1p⟩:=zat 1 (by decide) (by decide)
 obtain ⟨z2,hz2',hz2p⟩:=zat 2 (by decide) (by decide)
 obtain ⟨z3,hz3',hz3p⟩:=zat 3 (by decide) (by decide)
 refine ⟨_,rfl,z,_,_,_,rfl,rfl,hZ,hz0',_,_,rfl,hz0p,by decide,by decide,?_⟩
 obtain ⟨i0,i1⟩:=r_i (n:=z0) (show (0:Int)<4 by decide)
 generalize hins:lsz z0 4=ins at i0 i1 ⊢
 refine ⟨_,rfl,z,_,_,_,rfl,rfl,hZ,hz1',_,_,rfl,hz1p,by decide,by decide,?_⟩
 obtain ⟨m0,m1⟩:=r_i (n:=z1) (show (0:Int)<5 by decide)
 generalize lsz z1 5=many at m0 m1 ⊢
 obtain ⟨ins,rfl⟩:=Int.eq_ofNat_of_zero_le i0
 obtain ⟨many,rfl⟩:=Int.eq_ofNat_of_zero_le m0
 refine ⟨_,rfl,_,_,rfl,rfl,_,rfl,_,_,rfl,rfl,?_⟩
 refine ⟨zl0,fun g hg=>?_⟩
 have e1:=Int.emod_nonneg z2 (show (13:Int)≠0 by decide)
 have e2:=Int.emod_lt_of_pos z2 (show (0:Int)<13 by decide)
 refine ⟨_,rfl,z,_,_,_,rfl,rfl,(z_f hg _).seq hZ,hz2',_,_,rfl,rfl,(by show (0:Int)<13;decide),_,rfl,by lia,by lia,v_k (lo:=0) (fun j σ H'=>∃ (ts:List Addr) (ps:List (Int×Int)) (x:Option V),σ=[some (.ref a),some (.ref z),some (.int ins),some (.int many),some (.int (1+ins+many+j)),some (.ref g),x,none]/\ps.length=j/\PrsR H' g ts ps/\Same H H'/\∀ (k:Nat) (q:Int×Int),ps[k]? = some q->(0<=q.1/\q.1<2*(((1+ins+many:Nat):Int)+k))/\0<=q.2/\q.2<2*(((1+ins+many:Nat):Int)+k))
  ⟨[],[],none,(by congr 6),rfl,⟨z_d,.nil⟩,z_f hg _,fun k q h=>by simp at h⟩ ?_ ?_⟩
 ·rintro j σ H1 hj ⟨ts,ps,x,rfl,hps,hP,hs1,hb⟩
  obtain ⟨v1,hv1,v10,_⟩:=rat (2*(0+(j:Int))) (by lia) (by lia)
  obtain ⟨v2,hv2,v20,_⟩:=rat (2*(0+(j:Int))+1) (by lia) (by lia)
  have kp:(0:Int)<2*(1+(ins:Int)+many+j):=by lia
  refine ⟨_,rfl,.inl ⟨rfl,_,SqL.of hP.1⟩,_,rfl,_,rfl,_,_,rfl,rfl,.inl ⟨by decide,by decide⟩,a,_,_,_,rfl,rfl,hs1.seq hA,hv1,_,rfl,_,_,rfl,rfl,.inl ⟨by decide,by decide⟩,_,_,rfl,rfl,kp,_,rfl,_,rfl,_,_,rfl,rfl,.inl ⟨by decide,by decide⟩,_,_,rfl,rfl,a,_,_,_,rfl,rfl,hs1.seq hA,hv2,_,rfl,_,_,rfl,rfl,.inl ⟨by decide,by decide⟩,_,_,rfl,rfl,kp,zl2,fun t ht=>?_⟩
  have hgt:g≠t:=fun e=>by rw [<-e,hP.1] at ht;cases ht
  refine ⟨g,_,_,rfl,rfl,(by rw [z_r hgt];exact hP.1),(by rw [List.length_map,hP.length];exact y_b (by lia)),?_⟩
  refine ⟨_,rfl,_,_,rfl,rfl,?_⟩
  refine ⟨ts++[t],ps++[(v1%(2*(1+(ins:Int)+many+j)),v2%(2*(1+(ins:Int)+many+j)))],some (.int (0+(j:Int))),(by rw [show (1+(ins:Int)+many+((j+1:Nat):Int))=1+ins+many+j+1 by push_cast;lia];rfl),by rw [List.length_append,hps];rfl,hP.push ht _ _,x_c (x_c hs1 (hs1.free ht) _) hg _,fun k q hk=>?_⟩
  by_cases hlt:k<ps.length
  ·rw [List.getElem?_append_left hlt] at hk
   exact hb k q hk
  ·rw [List.getElem?_append_right (by lia)] at hk
   have hk0:k-ps.length=0:=by
    cases h:k-ps.length with
    | zero=>rfl
    | succ m=>rw [h] at hk;simp at hk
   rw [hk0] at hk
   have hq:=Option.some.inj hk
   subst hq
   have hkj:k=j:=by lia
   subst hkj
   refine ⟨⟨Int.emod_nonneg _ (by lia),?_⟩,Int.emod_nonneg _ (by lia),?_⟩
   ·have:=Int.emod_lt_of_pos v1 kp
    push_cast
    lia
   ·have:=Int.emod_lt_of_pos v2 kp
    push_cast
    lia
 ·rintro σ H1 ⟨ts,ps,x,rfl,hps,hP,hs1,hb⟩
  generalize hkn:1+(ins:Int)+many+((z2%13).toNat:Int)=kn
  have kp:(0:Int)<2*kn:=by lia
  refine ⟨_,rfl,_,rfl,by lia,by lia,y_r (lo:=0) (fun j ys H'=>∃ (bs:List Addr) (qs:List (Int×Int)),ys=bs.map V.ref/\qs.length=j/\Paired (fun r (p:Int×Int)=>H' r=some (.tup [.int p.1,.int p.2])) bs qs/\Same H1 H'/\∀ b∈qs,(b.1=0\/b.1=1)/\0<=b.2/\b.2<2*kn)
   ⟨[],[],rfl,rfl,.nil,Same.refl _,fun _ h=>nomatch h⟩ ?_ ?_ ?_⟩
  ·rintro j ys H' hj ⟨bs,qs,rfl,hqs,hB,_,_⟩
   rw [List.length_map,Paired.length hB]
   exact y_b (by lia)
  ·rintro j ys H2 hj ⟨bs,qs,rfl,hqs,hB,hs2,hbb⟩
   obtain ⟨v1,hv1,v10,_⟩:=rat (24+2*(0+(j:Int))) (by lia) (by lia)
   obtain ⟨v2,hv2,v20,_⟩:=rat (25+2*(0+(j:Int))) (by lia) (by lia)
   unfold tYes
   refine iteT ⟨_,rfl,_,rfl,_,_,rfl,rfl,.inl ⟨by decide,by decide⟩,_,_,rfl,rfl,a,_,_,_,rfl,rfl,(hs1.trans hs2).seq hA,hv1,_,_,rfl,rfl,(by show (0:Int)<2;decide),_,rfl,_,rfl,_,_,rfl,rfl,.inl ⟨by decide,by decide⟩,_,_,rfl,rfl,a,_,_,_,rfl,rfl,(hs1.trans hs2).seq hA,hv2,_,rfl,_,_,rfl,rfl,.inl ⟨by decide,by decide⟩,_,_,rfl,rfl,kp,zl2,fun t ht=>?_⟩
   refine ⟨bs++[t],qs++[(v1%2,v2%(2*kn))],by rw [List.map_append];rfl,by rw [List.length_append,hqs];rfl,pairsNew _ _ hB ht,hs2.trans (z_f ht _),fun b hb'=>?_⟩
   rcases List.mem_append.mp hb' with h | h
   ·exact hbb b h
   ·rw [List.mem_singleton.mp h]
    exact ⟨by show v1%2=0\/v1%2=1;lia,Int.emod_nonneg _ (by lia),Int.emod_lt_of_pos _ kp⟩
  ·rintro ys H2 ⟨bs,qs,rfl,hqs,hB,hs2,hbb⟩ b hbn
   have hs3:=hs2.trans (z_f hbn (.lst (bs.map V.ref)))
   refine ⟨_,rfl,_,rfl,_,rfl,_,rfl,z,_,_,_,rfl,rfl,((hs1.trans hs3).seq hZ),hz3',_,_,rfl,hz3p,by decide,by decide,?_⟩
   obtain ⟨n0,n1⟩:=r_i (n:=z3) (show (0:Int)<4 by decide)
   generalize lsz z3 4=no at n0 n1 ⊢
   refine ⟨_,rfl,by lia,by lia,y_r (lo:=0) (fun j ys H'=>∃ os:List Int,ys=os.map V.int/\os.length=j/\H'=_/\∀ o∈os,0<=o/\o<2*kn) ⟨[],rfl,rfl,rfl,fun _ h=>nomatch h⟩ ?_ ?_ ?_⟩
   ·rintro j ys H' hj ⟨os,rfl,ho,_,_⟩
    rw [List.length_map]
    exact y_b (by lia)
   ·rintro j ys H' hj ⟨os,rfl,ho,rfl,hob⟩
    obtain ⟨v1,hv1,v10,_⟩:=rat (40+(0+(j:Int))) (by lia) (by lia)
    unfold tYes
    refine iteT ⟨_,rfl,_,rfl,_,_,rfl,rfl,a,_,_,_,rfl,rfl,(hs1.trans hs3).seq hA,hv1,_,rfl,_,_,rfl,rfl,.inl ⟨by decide,by decide⟩,_,_,rfl,rfl,kp,?_⟩
    refine ⟨os++[v1%(2*kn)],by rw [List.map_append];rfl,by rw [List.length_append,ho];rfl,rfl,fun o h=>?_⟩
    rcases List.mem_append.mp h with h | h
    ·exact hob o h
    ·rw [List.mem_singleton.mp h]
     exact ⟨Int.emod_nonneg _ (by lia),Int.emod_lt_of_pos _ kp⟩
   ·rintro ys H' ⟨os,rfl,ho,rfl,hob⟩ o hon
    have hs4:=hs3.trans (z_f hon (.lst (os.map V.int)))
    refine ⟨zl4,fun w hw=>?_⟩
    have hs5:=hs4.trans (z_f hw (.tup [.int ins,.ref b,.ref g,.ref o]))
    refine q w b g o ⟨ins,qs,ps,os⟩ _ ((hs1.trans hs4).free hw) ((hs1.trans hs2).free hbn) hg ((hs1.trans hs3).free hon) (hs1.trans hs5) ⟨z_d,⟨bs,?_⟩,⟨ts,hP.same hs5⟩,?_⟩ ⟨by show ins<=7;lia,by show qs.length<=40;lia,by show ps.length<=2000;lia,by show os.length<=20;lia,fun k g' hk=>?_,fun b' hb'=>?_,fun o' ho'=>?_⟩ (by show ps.length<=12;lia) (by show os.length<=8;lia) (by show qs.length<=8;lia)
    ·have hs':=(z_f hon (.lst (os.map V.int))).trans (z_f hw (.tup [.int ins,.ref b,.ref g,.ref o]))
     refine PrsR.same hs' ⟨z_d,z_w (fun r p q=>?_) hB⟩
     rw [z_r (z_i q hbn)]
     exact q
    ·exact (z_f hw _) _ _ z_d
    ·have:=hb k g' hk
     show (0<=g'.1/\g'.1<2*(((1+ins+qs.length:Nat):Int)+k))/\0<=g'.2/\g'.2<2*(((1+ins+qs.length:Nat):Int)+k)
     have e:qs.length=many:=by lia
     rw [e]
     exact this
    ·have:=hbb b' hb'
     show (b'.1=0\/b'.1=1)/\0<=b'.2/\b'.2<2*((1+ins+qs.length+ps.length:Nat):Int)
     refine ⟨this.1,this.2.1,?_⟩
     push_cast
     lia
    ·have:=hob o' ho'
     show 0<=o'/\o'<2*((1+ins+qs.length+ps.length:Nat):Int)
     refine ⟨this.1,?_⟩
     push_cast
     lia
theorem ok_L_end(T:Tx w K mg A):FnOk P w K mg base CX0 1 A.a_L_end A.d_L_end ["_law_ends", "_law_end_here"] u_e:=by
 refine T.F_L_end.ok sc_L_end (fun vs H Q E h=>?_) (fun cdv A' outer s H vs Q E hr h=>?_)
 ·obtain ⟨l,Ls,e,rfl,hl,he,q⟩:=h
  rfl
 obtain ⟨l,Ls,e,rfl,hl,he,q⟩:=h
 refine ⟨_,(z_h (z_y (z_k v_e (z_l ix_list0 (pv 0) (z_k y_n (pv 1) z_c) (fun _ _=>rfl)) (z_k x_m (pv 1) z_c)))),?_⟩
 have hat:atI (z_g Ls) ((e:Int)/2)=some (.int ((Ls.getD (e/2) 0:Nat):Int)):=by
  rw [show (e:Int)/2=((e/2:Nat):Int) by lia]
  exact w_o he
 refine ⟨_,rfl,_,rfl,_,_,rfl,rfl,⟨by decide,by decide⟩,l,_,_,_,rfl,rfl,SqL.of hl,hat,_,rfl,_,_,rfl,rfl,(by show (0:Int)<2;decide),_,_,rfl,rfl,?_⟩
 have ex:Builtin.bitXor ((Ls.getD (e/2) 0:Nat):Int) ((e:Int)%2)=((eW Ls e:Nat):Int):=by
  rw [show (e:Int)%2=((e%2:Nat):Int) by lia,v_c]
  rfl
 dsimp only
 rw [ex]
 exact q
theorem o_y(T:Tx w K mg A)(G_L_end:FnOk P w K mg base CX0 1 A.a_L_end A.d_L_end ["_law_ends", "_law_end_here"] u_e):FnOk P w K mg base CX0 2 A.a_L_swapped A.d_L_swapped ["_law_ends", "_law_work_here"] u_u:=by
 refine T.F_L_swapped.ok n_n (fun vs H Q E h=>?_) (fun cdv A' outer s H vs Q E hr h=>?_)
 ·obtain ⟨l,w,b,g,o,Ls,W,gs,rfl,hl,hW,hgs,hb,h1000,q⟩:=h
  rfl
 obtain ⟨l,w,b,g,o,Ls,W,gs,rfl,hl,hW,hgs,hb,h1000,q⟩:=h
 refine ⟨_,(z_h (z_y (t_q ["_law_a", "_law_b"] [0] (fun _ _ h=>h) rfl (y_d (z_l ix_tup0 (pv 1) z_c (fun _ _=>rfl))) (fun _ _ _ _=>(y_x rfl (z_u (z_t (i:=0) (show (["_law_a", "_law_b", "_law_ends"]:List Str).Nodup by decide +kernel) rfl (Or.inl rfl)) (z_u (z_t (i:=1) (show (["_law_a", "_law_b", "_law_ends"]:List Str).Nodup by decide +kernel) rfl (Or.inl rfl)) y_o)))) w_q (fun _ _ _ _=>y_a) (fun _ _ _ _=>(y_e (z_a (z_j G_L_end (hr.mono (by first | decide | lia)) rfl T.M_L_end T.F_L_end.kp T.B_L_end .nil pass0 (z_a (pv 2) (z_a (pv 0) z_b))) (z_a (z_j G_L_end (hr.mono (by first | decide | lia)) rfl T.M_L_end T.F_L_end.kp T.B_L_end .nil pass0 (z_a (pv 2) (z_a (pv 1) z_b))) z_b)))) rfl (show ∀ j∈([0]:List Nat),j<2 by decide)))),?_⟩
 obtain ⟨rs,hR⟩:=hW.g
 have hm:∀ p∈W.gates,∃ x∈gs,p=((x.1:Int),(x.2:Int)):=fun p hp=>by
  rw [hgs] at hp
  unfold gI at hp
  obtain ⟨x,hx,rfl⟩:=List.mem_map.mp hp
  exact ⟨x,hx,rfl⟩
 refine ⟨_,rfl,w,_,_,_,rfl,rfl,SqT.of hW.w,rfl,g,rfl,⟨_,SqL.of hR.1⟩,y_p (fun p=>(((eW Ls p.1.toNat:Nat):Int),((eW Ls p.2.toNat:Nat):Int))) hR (by rw [hgs,o_j];lia) (fun p hp H1 s1 N hN=>?_) fun x1 H1 s1 h1 p1 hp1=>?_⟩
 ·obtain ⟨x,hx,rfl⟩:=hm p hp
  obtain ⟨b1,b2⟩:=hb x hx
  exact ⟨_,rfl,_,rfl,l,Ls,x.1,rfl,s1 _ _ hl,b1,_,rfl,_,rfl,l,Ls,x.2,rfl,s1 _ _ hl,b2,zl2,hN⟩
 ·have P1:=PrsR.mk h1 hp1
  have e:(W.gates.map fun p:Int×Int=>(((eW Ls p.1.toNat:Nat):Int),((eW Ls p.2.toNat:Nat):Int)))=gI (gs.map fun x=>(eW Ls x.1,eW Ls x.2)):=by
   rw [hgs]
   unfold gI
   rw [List.map_map,List.map_map]
   rfl
  rw [e] at P1
  exact q p1 x1 _ (s1.free hp1) (s1.trans (z_f hp1 _)) P1
theorem m_v(T:Tx w K mg A):FnOk P w K mg base CX0 1 A.a_L_joined A.d_L_joined ["_law_labels", "_law_one", "_law_other"] s_g:=by
 refine T.F_L_joined.ok sc_L_joined (fun vs H Q E h=>?_) (fun cdv A' outer s H vs Q E hr h=>?_)
 ·obtain ⟨p,Ls,one,other,rfl,hp,hl,h1,h2,h3,h4,qn,qs⟩:=h
  rfl
 obtain ⟨p,Ls,one,other,rfl,hp,hl,h1,h2,h3,h4,qn,qs⟩:=h
 have hu:=hu_of hr
 refine ⟨_,(z_e (x_j (z_z s_l (z_l ix_list0 (pv 0) (pv 1) (fun _ _=>rfl)) (z_l ix_list0 (pv 0) (z_k v_e (pv 2) z_c) (fun _ _=>rfl)) (nomark _)) (z_h (z_y u_l)) y_c)
  (z_e (z_v (i:=3) sc_L_joined.nd rfl (Or.inr rfl) (g_l (s_t (z_l ix_list0 (pv 0) (pv 2) (fun _ _=>rfl)) (z_l ix_list0 (pv 0) (pv 1) (fun _ _=>rfl)) (s_t (z_l ix_list0 (pv 0) (z_k v_e (pv 2) z_c) (fun _ _=>rfl)) (z_l ix_list0 (pv 0) (z_k v_e (pv 1) z_c) (fun _ _=>rfl)) g_u)) rfl rfl (by simp) (by decide)))
  (z_h (z_y (y_s [3] (fun _ _ h=>h) rfl (y_d (pv 0)) (fun _ _ _ _=>y_a) (fun _ _ _ _=>(pe_dget2 hu (pv 1) (pv 0) (pv 0) ⟨rfl,rfl,rfl,rfl⟩)) rfl (show ∀ j∈([3]:List Nat),j<4 by decide) (show (["_law_label", "_law_pairs"]:List Str).Nodup by decide +kernel)))))),?_⟩
 have x1:Builtin.bitXor (one:Int) 1=((one^^^1:Nat):Int):=v_c one 1
 have x2:Builtin.bitXor (other:Int) 1=((other^^^1:Nat):Int):=v_c other 1
 refine ⟨_,rfl,_,rfl,p,_,_,_,rfl,rfl,SqL.of hp,w_o h1,_,rfl,_,rfl,_,_,rfl,rfl,p,_,_,_,rfl,rfl,SqL.of hp,(by rw [x2];exact w_o h4),rfl,_,rfl,?_⟩
 by_cases c:Ls.getD one 0=Ls.getD (other^^^1) 0
 ·refine v_i (decide_eq_true (congrArg V.int (by rw [c]))) ?_
  exact qn c
 ·refine x_d (decide_eq_false (by intro e;injection e with e;lia)) ?_
  refine fun pd hpd=>?_
  have t1:=z_f hpd (.dK [])
  have hp1:=t1 _ _ hp
  refine ⟨_,rfl,_,rfl,p,_,_,_,rfl,rfl,SqL.of hp1,w_o h2,_,rfl,_,rfl,p,_,_,_,rfl,rfl,SqL.of hp1,w_o h1,_,rfl,_,rfl,_,_,rfl,rfl,p,_,_,_,rfl,rfl,SqL.of hp1,(by rw [x2];exact w_o h4),_,rfl,_,rfl,_,_,rfl,rfl,p,_,_,_,rfl,rfl,SqL.of hp1,(by rw [x1];exact w_o h3),z_d,[(.inl ((Ls.getD other 0:Nat):Int),.int (Ls.getD one 0:Nat)),(.inl ((Ls.getD (other^^^1) 0:Nat):Int),.int (Ls.getD (one^^^1) 0:Nat))],rfl,(by show 2<=15;decide),?_⟩
  have hget:=f_t (a:=Ls.getD other 0) (b:=Ls.getD (other^^^1) 0) (va:=.int (Ls.getD one 0:Nat)) (vb:=.int (Ls.getD (one^^^1) 0:Nat))
  generalize mergeK [] [((.inl ((Ls.getD other 0:Nat):Int):Key),V.int (Ls.getD one 0:Nat)),(.inl ((Ls.getD (other^^^1) 0:Nat):Int),.int (Ls.getD (one^^^1) 0:Nat))]=kvs at hget ⊢
  have u2:Same H (upd (upd H pd (.dK [])) pd (.dK kvs)):=x_c t1 hpd _
  have fd:=z_d (H:=upd H pd (.dK [])) (a:=pd) (o:=.dK kvs)
  generalize upd (upd H pd (.dK [])) pd (.dK kvs)=H2 at u2 fd ⊢
  have hp2:=u2 _ _ hp
  refine ⟨_,rfl,p,rfl,⟨_,SqL.of hp2⟩,x_w (xs:=z_g Ls) (fun i ys H'=>H2=H'/\ys=z_g ((Ls.take i).map fun x=>if x=Ls.getD (other^^^1) 0 then Ls.getD (one^^^1) 0 else if x=Ls.getD other 0 then Ls.getD one 0 else x)) ⟨rfl,rfl⟩ ?_ ?_ ?_ ?_⟩
  ·rintro i ys H' _ ⟨rfl,_⟩
   exact SqL.of hp2
  ·rintro i ys H' hi ⟨rfl,rfl⟩
   rw [z_o,List.length_map,List.length_take]
   exact y_b (by lia)
  ·rintro i v ys H' hv ⟨rfl,rfl⟩
   obtain ⟨hi,rfl⟩:=w_b hv
   unfold tYes
   refine iteT ⟨_,rfl,pd,rfl,.inl ⟨kvs,.inl fd⟩,_,rfl,_,rfl,_,DGet.k (k:=.inl ((Ls.getD i 0:Nat):Int)) fd,?_⟩
   refine ⟨rfl,?_⟩
   rw [f_p hi,List.map_append,List.map_cons,List.map_nil,y_g,hget]
   congr 2
   by_cases q1:Ls.getD i 0=Ls.getD (other^^^1) 0
   ·rw [if_pos q1,if_pos q1];rfl
   ·rw [if_neg q1,if_neg q1]
    by_cases q2:Ls.getD i 0=Ls.getD other 0
    ·rw [if_pos q2,if_pos q2];rfl
    ·rw [if_neg q2,if_neg q2];rfl
  ·rintro ys H' ⟨rfl,rfl⟩ q hq
   refine qs c q _ (u2.free hq) (u2.trans (z_f hq _)) ?_
   rw [z_d,z_o,List.take_length]
   rfl
theorem g_c(T:Tx w K mg A)(G_L_swapped:FnOk P w K mg base CX0 2 A.a_L_swapped A.d_L_swapped ["_law_ends", "_law_work_here"] u_u)(G_L_end:FnOk P w K mg base CX0 1 A.a_L_end A.d_L_end ["_law_ends", "_law_end_here"] u_e):FnOk P w K mg base CX0 3 A.a_L_nets A.d_L_nets ["_law_work_here"] n_v:=by
 refine T.F_L_nets.ok sc_L_nets (fun vs H Q E h=>?_) (fun cdv A' outer s H vs Q E hr h=>?_)
 ·obtain ⟨w,b,g,o,W,rfl,hW,ok,h400,q⟩:=h
  rfl
 obtain ⟨w,b,g,o,W,rfl,hW,ok,h400,q⟩:=h
 refine ⟨_,(z_e (z_v (i:=1) sc_L_nets.nd rfl (Or.inr rfl) (z_l ix_tup0 (pv 0) z_c (fun _ _=>rfl)))
  (z_e (z_v (i:=2) sc_L_nets.nd rfl (Or.inl rfl) (z_m z_s rfl T.len PySem.boot_len (z_a (z_l ix_tup0 (pv 0) z_c (fun _ _=>rfl)) z_b)))
  (z_e (z_v (i:=3) sc_L_nets.nd rfl (Or.inr rfl) (z_k z_x (z_k z_x z_c (pv 1)) (pv 2)))
  (z_e (u_m [] sc_L_nets.nd (i:=4) rfl (Or.inl rfl) (fun _ _ h=>h) rfl (y_j rfl T.range (z_a (z_k z_x (pv 3) (z_m z_s rfl T.len PySem.boot_len (z_a (z_l ix_tup0 (pv 0) z_c (fun _ _=>rfl)) z_b))) z_b)) (fun _ _ _ _=>y_a) (fun _ _ _ _=>(z_k y_h z_c (pv 0))) rfl (show ∀ j∈([]:List Nat),j<10 by decide) (show (["_law_k"]:List Str).Nodup by decide +kernel) (by with_unfolding_all rfl))
  (z_e (z_v (i:=5) sc_L_nets.nd rfl (Or.inl rfl) (z_k v_m (z_k v_m (s_s k_s (pv 4) g_s (s_c (z_k z_x z_c (pv 1)))) (y_s [] (fun _ _ h=>h) rfl (y_d (z_l ix_tup0 (pv 0) z_c (fun _ _=>rfl))) (fun _ _ _ _=>y_a) (fun _ _ _ _=>(z_l ix_tup0 (pv 0) z_c (fun _ _=>rfl))) rfl (show ∀ j∈([]:List Nat),j<10 by decide) (show (["_law_box"]:List Str).Nodup by decide +kernel))) (y_s [1] (fun _ _ h=>h) rfl (y_j rfl T.range (z_a (z_m z_s rfl T.len PySem.boot_len (z_a (z_l ix_tup0 (pv 0) z_c (fun _ _=>rfl)) z_b)) z_b)) (fun _ _ _ _=>y_a) (fun _ _ _ _=>(z_k y_h z_c (z_k z_x (z_k z_x z_c (pv 1)) (pv 0)))) rfl (show ∀ j∈([1]:List Nat),j<10 by decide) (show (["_law_k", "_law_ins"]:List Str).Nodup by decide +kernel))))
  (z_e (z_v (i:=6) sc_L_nets.nd rfl (Or.inr rfl) (z_k v_m (s_s k_s (pv 4) g_s (s_c (pv 3))) (y_s [3,1] (fun _ _ h=>h) rfl (y_j rfl T.range (z_a (z_m z_s rfl T.len PySem.boot_len (z_a (z_l ix_tup0 (pv 0) z_c (fun _ _=>rfl)) z_b)) z_b)) (fun _ _ _ _=>y_a) (fun _ _ _ _=>(z_k y_h z_c (z_k z_x (z_k z_x (pv 1) (pv 2)) (pv 0)))) rfl (show ∀ j∈([3,1]:List Nat),j<10 by decide) (show (["_law_k", "_law_first", "_law_ins"]:List Str).Nodup by decide +kernel))))
  (z_e (z_v (i:=7) sc_L_nets.nd rfl (Or.inl rfl) (z_k v_m (z_k v_m (x_i (z_a z_c z_b)) (y_s [3] (fun _ _ h=>h) rfl (y_j rfl T.range (z_a (pv 1) z_b)) (fun _ _ _ _=>y_a) (fun _ _ _ _=>(z_k y_h z_c (z_k z_x (pv 1) (pv 0)))) rfl (show ∀ j∈([3]:List Nat),j<10 by decide) (show (["_law_k", "_law_first"]:List Str).Nodup by decide +kernel))) (y_s [6] (fun _ _ h=>h) rfl (y_d (z_l ix_tup0 (pv 0) z_c (fun _ _=>rfl))) (fun _ _ _ _=>y_a) (fun _ _ _ _=>(z_j G_L_end (hr.mono (by first | decide | lia)) rfl T.M_L_end T.F_L_end.kp T.B_L_end .nil pass0 (z_a (pv 1) (z_a (z_l ix_tup0 (pv 0) z_c (fun _ _=>rfl)) z_b)))) rfl (show ∀ j∈([6]:List Nat),j<10 by decide) (show (["_law_box", "_law_now"]:List Str).Nodup by decide +kernel))))
  (z_e (z_v (i:=7) sc_L_nets.nd rfl (Or.inl rfl) (z_k v_m (pv 7) (y_s [3,1,0] (fun _ _ h=>h) rfl (y_j rfl T.range (z_a (z_m z_s rfl T.len PySem.boot_len (z_a (z_l ix_tup0 (pv 0) z_c (fun _ _=>rfl)) z_b)) z_b)) (fun _ _ _ _=>y_a) (fun _ _ _ _=>(z_k y_h z_c (z_k z_x (z_k z_x (z_k z_x (pv 1) (pv 2)) (z_m z_s rfl T.len PySem.boot_len (z_a (z_l ix_tup0 (pv 3) z_c (fun _ _=>rfl)) z_b))) (pv 0)))) rfl (show ∀ j∈([3,1,0]:List Nat),j<10 by decide) (show (["_law_k", "_law_first", "_law_ins", "_law_work_here"]:List Str).Nodup by decide +kernel))))
  (z_e (z_v (i:=8) sc_L_nets.nd rfl (Or.inl rfl) (z_k v_m (z_j G_L_swapped (hr.mono (by first | decide | lia)) rfl T.M_L_swapped T.F_L_swapped.kp T.B_L_swapped .nil pass0 (z_a (pv 6) (z_a (pv 0) z_b))) (z_j G_L_swapped (hr.mono (by first | decide | lia)) rfl T.M_L_swapped T.F_L_swapped.kp T.B_L_swapped .nil pass0 (z_a (pv 7) (z_a (pv 0) z_b)))))
  (z_e (z_v (i:=9) sc_L_nets.nd rfl (Or.inl rfl) (y_e (z_a (y_e (z_a (pv 1) (z_a (z_j G_L_swapped (hr.mono (by first | decide | lia)) rfl T.M_L_swapped T.F_L_swapped.kp T.B_L_swapped .nil pass0 (z_a (pv 5) (z_a (pv 0) z_b))) z_b))) (z_a (pv 5) (z_a (pv 5) z_b)))))
  (z_h (z_y (x_i (z_a (pv 9) (z_a (y_e (z_a (y_e (z_a (z_k z_x (z_k v_n (pv 3) z_c) (pv 1)) (z_a (pv 8) z_b))) (z_a (pv 6) (z_a (pv 7) z_b)))) (z_a (y_e (z_a (y_e (z_a (z_k v_n (pv 3) z_c) (z_a (x_b v_y rfl T.list PyProof.Rows.boot_list (z_a (z_l ix_tup0 (pv 0) z_c (fun _ _=>rfl)) z_b)) z_b))) (z_a (pv 4) (z_a (pv 4) z_b)))) z_b)))))))))))))))),?_⟩
 obtain ⟨bs,hB⟩:=hW.b
 obtain ⟨gr,hG⟩:=hW.g
 have h1:=W.knots_is
 have h2:=W.first_is
 have hbl:(bs.map V.ref).length=W.boxes.length:=by rw [List.length_map,hB.length]
 have hgl:(gr.map V.ref).length=W.gates.length:=by rw [List.length_map,hG.length]
 have eG:=o_k ok.gate
 have gb:∀ x∈nG W.gates,x.1/2<W.knots/\x.2/2<W.knots:=fun x hx=>by
  obtain ⟨k,hk⟩:=List.getElem?_of_mem hx
  have hkl:=(List.getElem?_eq_some_iff.mp hk).1
  rw [v_l] at hkl
  have hgo:GateOk (1+(W.ins+W.boxes.length)) W.gates:=by
   have:=ok.gate
   rw [h2,Nat.add_assoc] at this
   exact this
  obtain ⟨c1,c2⟩:=o_r hgo k x hk
  lia
 have gl:(nG W.gates).length=W.gates.length:=v_l _
 refine ⟨_,rfl,w,_,_,_,rfl,rfl,SqT.of hW.w,rfl,?_⟩
 refine ⟨_,rfl,w,_,_,_,rfl,rfl,SqT.of hW.w,rfl,_,_,rfl,.inl ⟨_,SqL.of hB.1,rfl⟩,?_⟩
 dsimp only [gName]
 rw [hbl]
 refine ⟨_,rfl,_,_,rfl,rfl,_,rfl,_,_,rfl,rfl,?_⟩
 dsimp only [gName]
 rw [show 1+(W.ins:Int)+((W.boxes.length:Nat):Int)=(W.first:Int) by lia]
 have ek:(W.first:Int)+(((gr.map V.ref).length:Nat):Int)=(W.knots:Int):=by rw [hgl];lia
 refine ⟨_,rfl,_,rfl,w,_,_,_,rfl,rfl,SqT.of hW.w,rfl,_,_,rfl,.inl ⟨_,SqL.of hG.1,rfl⟩,_,_,rfl,rfl,(W.knots:Int),congrArg (fun x=>[V.int x]) ek,by lia,by lia,y_r (lo:=0) (fun i ys J=>H=J/\ys=z_g (rwE id i)) ⟨rfl,rfl⟩ ?_ ?_ ?_⟩
 ·rintro i ys J hi ⟨_,rfl⟩
  rw [z_o,y_t]
  exact y_b (by lia)
 ·rintro i ys J hi ⟨rfl,rfl⟩
  unfold tYes
  refine iteT ⟨_,rfl,_,_,rfl,rfl,.inl ⟨by decide,by decide⟩,rfl,?_⟩
  rw [s_v,y_g]
  show _++[V.int (2*(0+(i:Int)))]=_++[V.int ((2*i:Nat):Int)]
  rw [Int.zero_add,Int.natCast_mul]
  rfl
 rintro ys J ⟨rfl,rfl⟩ p4 hp4
 rw [show ((W.knots:Nat):Int).toNat=W.knots from Int.toNat_natCast _]
 have s1:=z_f hp4 (.lst (z_g (rwE id W.knots)))
 have f4:=z_d (H:=H) (a:=p4) (o:=.lst (z_g (rwE id W.knots)))
 dsimp only [gName]
 generalize upd H p4 (.lst (z_g (rwE id W.knots)))=H1 at s1 f4 ⊢
 have ri:(rwE id W.knots).length=W.knots:=y_t _ _
 refine ⟨_,rfl,_,rfl,_,_,rfl,rfl,((1+W.ins:Nat):Int),(by show V.int (1+(W.ins:Int))=V.int ((1+W.ins:Nat):Int);congr 1),p4,_,rfl,SqL.of f4,fun q1 hq1=>?_⟩
 rw [o_s (by lia),k_p (by lia)]
 have u1:=z_f hq1 (.lst (z_g (rwE id (1+W.ins))))
 have e1:=z_d (H:=H1) (a:=q1) (o:=.lst (z_g (rwE id (1+W.ins))))
 have s2:=s1.trans u1
 generalize upd H1 q1 (.lst (z_g (rwE id (1+W.ins))))=H2 at u1 e1 s2 ⊢
 refine ⟨_,rfl,w,_,_,_,rfl,rfl,SqT.of (s2 _ _ hW.w),rfl,b,rfl,⟨_,SqL.of (s2 _ _ hB.1)⟩,x_w (xs:=bs.map V.ref) (fun i ys J=>H2=J/\∃ ls:List Nat,ys=z_g ls/\ls.length=i) ⟨rfl,[],rfl,rfl⟩ ?_ ?_ ?_ ?_⟩
 ·rintro i ys J _ ⟨rfl,_⟩
  exact SqL.of (s2 _ _ hB.1)
 ·rintro i ys J hi ⟨_,ls,rfl,h⟩
  rw [hbl] at hi
  rw [z_o]
  exact y_b (by lia)
 ·rintro i v ys J hv ⟨rfl,ls,rfl,h⟩
  rw [List.getElem?_map] at hv
  obtain ⟨rb,hrb,rfl⟩:=Option.map_eq_some_iff.mp hv
  obtain ⟨pb,hpb,hbt⟩:=y_v hB.2 hrb
  obtain ⟨c1,_⟩:=ok.box pb (List.mem_of_getElem? hpb)
  obtain ⟨nf,hnf⟩:∃ n:Nat,pb.1=(n:Int):=⟨pb.1.toNat,by lia⟩
  have ebt:=s2 _ _ hbt
  rw [hnf] at ebt
  unfold tYes
  exact iteT ⟨_,rfl,rb,_,_,_,rfl,rfl,SqT.of ebt,rfl,rfl,ls++[nf],(y_g _ _).symm,by rw [List.length_append,h];rfl⟩
 rintro ys J ⟨rfl,l1,rfl,hl1⟩ q2 hq2
 rw [hbl] at hl1
 have u2:=z_f hq2 (.lst (z_g l1))
 have e2:=z_d (H:=H2) (a:=q2) (o:=.lst (z_g l1))
 refine ⟨q1,q2,_,_,rfl,rfl,u2 _ _ e1,e2,small (by rw [z_o,z_o,y_t];lia),fun q3 hq3=>?_⟩
 rw [<-w_c]
 have u3:=u2.trans (z_f hq3 (.lst (z_g (rwE id (1+W.ins)++l1))))
 have e3:=z_d (H:=upd H2 q2 (.lst (z_g l1))) (a:=q3) (o:=.lst (z_g (rwE id (1+W.ins)++l1)))
 have s3:=s2.trans u3
 have f43:=(u1.trans u3) _ _ f4
 generalize upd (upd H2 q2 (.lst (z_g l1))) q3 (.lst (z_g (rwE id (1+W.ins)++l1)))=H3 at u3 e3 s3 f43 ⊢
 refine ⟨_,rfl,w,_,_,_,rfl,rfl,SqT.of (s3 _ _ hW.w),rfl,_,_,rfl,.inl ⟨_,SqL.of (s3 _ _ hG.1),rfl⟩,(W.gates.length:Int),congrArg (fun x:Nat=>[V.int (x:Int)]) hgl,by lia,by lia,y_r (lo:=0) (fun i ys J=>H3=J/\∃ ls:List Nat,ys=z_g ls/\ls.length=i) ⟨rfl,[],rfl,rfl⟩ ?_ ?_ ?_⟩
 ·rintro i ys J hi ⟨_,ls,rfl,h⟩
  rw [z_o]
  exact y_b (by lia)
 ·rintro i ys J hi ⟨rfl,ls,rfl,h⟩
  unfold tYes
  refine iteT ⟨_,rfl,_,_,rfl,rfl,_,rfl,_,_,rfl,rfl,_,_,rfl,rfl,.inl ⟨by decide,by decide⟩,rfl,ls++[2*(1+W.ins+i)],?_,by rw [List.length_append,h];rfl⟩
  rw [y_g]
  show _++[V.int (2*(1+(W.ins:Int)+(0+(i:Int))))]=_
  rw [show 2*(1+(W.ins:Int)+(0+(i:Int)))=((2*(1+W.ins+i):Nat):Int) by lia]
 rintro ys J ⟨rfl,l2,rfl,hl2⟩ q4 hq4
 rw [Int.toNat_natCast] at hl2
 have u4:=z_f hq4 (.lst (z_g l2))
 have e4:=z_d (H:=H3) (a:=q4) (o:=.lst (z_g l2))
 refine ⟨q3,q4,_,_,rfl,rfl,u4 _ _ e3,e4,small (by rw [z_o,z_o,List.length_append,y_t];lia),fun p5 hp5=>?_⟩
 rw [<-w_c]
 have lbg:(rwE id (1+W.ins)++l1++l2).length=W.knots:=by rw [List.length_append,List.length_append,y_t];lia
 generalize rwE id (1+W.ins)++l1++l2=Bg at lbg ⊢
 have u5:=u4.trans (z_f hp5 (.lst (z_g Bg)))
 have f5:=z_d (H:=upd H3 q4 (.lst (z_g l2))) (a:=p5) (o:=.lst (z_g Bg))
 have s5:=s3.trans u5
 have f45:=u5 _ _ f43
 dsimp only [gName]
 generalize upd (upd H3 q4 (.lst (z_g l2))) p5 (.lst (z_g Bg))=H5 at u5 f5 s5 f45 ⊢
 refine ⟨_,rfl,_,rfl,_,rfl,p4,_,rfl,SqL.of f45,fun q6 hq6=>?_⟩
 rw [o_s (by lia),k_p (by lia)]
 have u6:=z_f hq6 (.lst (z_g (rwE id W.first)))
 have e6:=z_d (H:=H5) (a:=q6) (o:=.lst (z_g (rwE id W.first)))
 have s6:=s5.trans u6
 generalize upd H5 q6 (.lst (z_g (rwE id W.first)))=H6 at u6 e6 s6 ⊢
 refine ⟨_,rfl,w,_,_,_,rfl,rfl,SqT.of (s6 _ _ hW.w),rfl,_,_,rfl,.inl ⟨_,SqL.of (s6 _ _ hG.1),rfl⟩,(W.gates.length:Int),congrArg (fun x:Nat=>[V.int (x:Int)]) hgl,by lia,by lia,y_r (lo:=0) (fun i ys J=>H6=J/\ys=z_g ((List.range i).map fun k=>2*(W.first+W.ins+k))) ⟨rfl,rfl⟩ ?_ ?_ ?_⟩
 ·rintro i ys J hi ⟨_,rfl⟩
  rw [z_o,List.length_map,List.length_range]
  exact y_b (by lia)
 ·rintro i ys J hi ⟨rfl,rfl⟩
  unfold tYes
  refine iteT ⟨_,rfl,_,rfl,_,_,rfl,rfl,_,rfl,_,_,rfl,rfl,_,_,rfl,rfl,.inl ⟨by decide,by decide⟩,rfl,?_⟩
  rw [List.range_succ,List.map_append,List.map_cons,List.map_nil,y_g]
  show _++[V.int (2*((W.first:Int)+(W.ins:Int)+(0+(i:Int))))]=_
  rw [show 2*((W.first:Int)+(W.ins:Int)+(0+(i:Int)))=((2*(W.first+W.ins+i):Nat):Int) by lia]
 rintro ys J ⟨rfl,rfl⟩ q7 hq7
 rw [show ((W.gates.length:Nat):Int).toNat=W.gates.length from Int.toNat_natCast _]
 have u7:=z_f hq7 (.lst (z_g ((List.range W.gates.length).map fun k=>2*(W.first+W.ins+k))))
 have e7:=z_d (H:=H6) (a:=q7) (o:=.lst (z_g ((List.range W.gates.length).map fun k=>2*(W.first+W.ins+k))))
 refine ⟨q6,q7,_,_,rfl,rfl,u7 _ _ e6,e7,small (by rw [z_o,z_o,y_t,List.length_map,List.length_range];lia),fun p6 hp6=>?_⟩
 rw [<-w_c,<-kn_rwE]
 have u8:=u6.trans (u7.trans (z_f hp6 (.lst (z_g (rwE (kn W) W.knots)))))
 have f6:=z_d (H:=upd H6 q7 (.lst (z_g ((List.range W.gates.length).map fun k=>2*(W.first+W.ins+k))))) (a:=p6) (o:=.lst (z_g (rwE (kn W) W.knots)))
 have s8:=s5.trans u8
 have f48:=u8 _ _ f45
 have f58:=u8 _ _ f5
 dsimp only [gName]
 generalize upd (upd H6 q7 (.lst (z_g ((List.range W.gates.length).map fun k=>2*(W.first+W.ins+k))))) p6 (.lst (z_g (rwE (kn W) W.knots)))=H8 at u8 f6 s8 f48 f58 ⊢
 have rn:(rwE (kn W) W.knots).length=W.knots:=y_t _ _
 refine ⟨zl1,fun a1 ha1=>?_⟩
 have v1:=z_f ha1 (.lst [.int 0])
 have g1:=z_d (H:=H8) (a:=a1) (o:=.lst [.int 0])
 have g1':(upd H8 a1 (.lst [.int 0])) a1=some (.lst (z_g [0])):=g1
 generalize upd H8 a1 (.lst [.int 0])=J1 at v1 g1 g1' ⊢
 refine ⟨_,rfl,_,rfl,by have:=ok.ins;lia,by have:=ok.ins;lia,y_r (lo:=0) (fun i ys J=>J1=J/\∃ ls:List Nat,ys=z_g ls/\ls.length=i) ⟨rfl,[],rfl,rfl⟩ ?_ ?_ ?_⟩
 ·rintro i ys J hi ⟨_,ls,rfl,h⟩
  have:=ok.ins
  rw [z_o]
  exact y_b (by lia)
 ·rintro i ys J hi ⟨rfl,ls,rfl,h⟩
  unfold tYes
  refine iteT ⟨_,rfl,_,rfl,_,_,rfl,rfl,_,_,rfl,rfl,.inl ⟨by decide,by decide⟩,rfl,ls++[2*(W.first+i)],?_,by rw [List.length_append,h];rfl⟩
  rw [y_g]
  show _++[V.int (2*((W.first:Int)+(0+(i:Int))))]=_
  rw [show 2*((W.first:Int)+(0+(i:Int)))=((2*(W.first+i):Nat):Int) by lia]
 rintro ys J ⟨rfl,m1,rfl,hm1⟩ a2 ha2
 rw [Int.toNat_natCast] at hm1
 have v2:=z_f ha2 (.lst (z_g m1))
 have g2:=z_d (H:=J1) (a:=a2) (o:=.lst (z_g m1))
 refine ⟨a1,a2,_,_,rfl,rfl,v2 _ _ g1',g2,small (by rw [z_o,z_o];show 1+m1.length<=_;have:=ok.ins;lia),fun a3 ha3=>?_⟩
 rw [<-w_c]
 have v3:=v1.trans (v2.trans (z_f ha3 (.lst (z_g ([0]++m1)))))
 have g3:=z_d (H:=upd J1 a2 (.lst (z_g m1))) (a:=a3) (o:=.lst (z_g ([0]++m1)))
 generalize upd (upd J1 a2 (.lst (z_g m1))) a3 (.lst (z_g ([0]++m1)))=J3 at v3 g3 ⊢
 have s83:=s8.trans v3
 have f63:=v3 _ _ f6
 refine ⟨_,rfl,w,_,_,_,rfl,rfl,SqT.of (s83 _ _ hW.w),rfl,b,rfl,⟨_,SqL.of (s83 _ _ hB.1)⟩,x_w (xs:=bs.map V.ref) (fun i ys J=>J3=J/\∃ ls:List Nat,ys=z_g ls/\ls.length=i) ⟨rfl,[],rfl,rfl⟩ ?_ ?_ ?_ ?_⟩
 ·rintro i ys J _ ⟨rfl,_⟩
  exact SqL.of (s83 _ _ hB.1)
 ·rintro i ys J hi ⟨_,ls,rfl,h⟩
  rw [hbl] at hi
  rw [z_o]
  exact y_b (by lia)
 ·rintro i v ys J hv ⟨rfl,ls,rfl,h⟩
  rw [List.getElem?_map] at hv
  obtain ⟨rb,hrb,rfl⟩:=Option.map_eq_some_iff.mp hv
  obtain ⟨pb,hpb,hbt⟩:=y_v hB.2 hrb
  obtain ⟨_,c2,c3⟩:=ok.box pb (List.mem_of_getElem? hpb)
  obtain ⟨nf,hnf⟩:∃ n:Nat,pb.2=(n:Int):=⟨pb.2.toNat,by lia⟩
  have ebt:=s83 _ _ hbt
  rw [hnf] at ebt
  unfold tYes
  exact iteT ⟨_,rfl,_,rfl,rb,_,_,_,rfl,rfl,SqT.of ebt,rfl,p6,_,nf,rfl,f63,by rw [rn];lia,rfl,ls++[_],(y_g _ _).symm,by rw [List.length_append,h];rfl⟩
 rintro ys J ⟨rfl,m2,rfl,hm2⟩ a4 ha4
 rw [hbl] at hm2
 have v4:=z_f ha4 (.lst (z_g m2))
 have g4:=z_d (H:=J3) (a:=a4) (o:=.lst (z_g m2))
 refine ⟨a3,a4,_,_,rfl,rfl,v4 _ _ g3,g4,small (by rw [z_o,z_o,List.length_append];show 1+m1.length+m2.length<=_;have:=ok.ins;lia),fun a5 ha5=>?_⟩
 rw [<-w_c]
 have v5:=v3.trans (v4.trans (z_f ha5 (.lst (z_g ([0]++m1++m2)))))
 have g5:=z_d (H:=upd J3 a4 (.lst (z_g m2))) (a:=a5) (o:=.lst (z_g ([0]++m1++m2)))
 dsimp only [gName]
 generalize upd (upd J3 a4 (.lst (z_g m2))) a5 (.lst (z_g ([0]++m1++m2)))=J5 at v5 g5 ⊢
 have s85:=s8.trans v5
 refine ⟨_,rfl,_,rfl,w,_,_,_,rfl,rfl,SqT.of (s85 _ _ hW.w),rfl,_,_,rfl,.inl ⟨_,SqL.of (s85 _ _ hG.1),rfl⟩,(W.gates.length:Int),congrArg (fun x:Nat=>[V.int (x:Int)]) hgl,by lia,by lia,y_r (lo:=0) (fun i ys J=>J5=J/\∃ ls:List Nat,ys=z_g ls/\ls.length=i) ⟨rfl,[],rfl,rfl⟩ ?_ ?_ ?_⟩
 ·rintro i ys J hi ⟨_,ls,rfl,h⟩
  rw [z_o]
  exact y_b (by lia)
 ·rintro i ys J hi ⟨rfl,ls,rfl,h⟩
  unfold tYes
  refine iteT ⟨_,rfl,_,rfl,_,_,rfl,rfl,_,rfl,w,_,_,_,rfl,rfl,SqT.of (s85 _ _ hW.w),rfl,_,_,rfl,.inl ⟨_,SqL.of (s85 _ _ hG.1),rfl⟩,_,_,rfl,rfl,_,rfl,_,_,rfl,rfl,_,_,rfl,rfl,.inl ⟨by decide,by decide⟩,rfl,ls++[2*(W.first+W.ins+W.gates.length+i)],?_,by rw [List.length_append,h];rfl⟩
  rw [y_g]
  show _++[V.int (2*((W.first:Int)+(W.ins:Int)+(((gr.map V.ref).length:Nat):Int)+(0+(i:Int))))]=_
  rw [hgl,show 2*((W.first:Int)+(W.ins:Int)+((W.gates.length:Nat):Int)+(0+(i:Int)))=((2*(W.first+W.ins+W.gates.length+i):Nat):Int) by lia]
 rintro ys J ⟨rfl,m3,rfl,hm3⟩ a6 ha6
 rw [Int.toNat_natCast] at hm3
 have v6:=z_f ha6 (.lst (z_g m3))
 have g6:=z_d (H:=J5) (a:=a6) (o:=.lst (z_g m3))
 have lth:([0]++m1++m2++m3).length=W.knots:=by rw [List.length_append,List.length_append,List.length_append];show 1+m1.length+m2.length+m3.length=_;lia
 refine ⟨a5,a6,_,_,rfl,rfl,v6 _ _ g5,g6,small (by rw [z_o,z_o,<-List.length_append];lia),fun p7 hp7=>?_⟩
 rw [<-w_c]
 generalize [0]++m1++m2++m3=Th at lth ⊢
 have v7:=v5.trans (v6.trans (z_f hp7 (.lst (z_g Th))))
 have f7:=z_d (H:=upd J5 a6 (.lst (z_g m3))) (a:=p7) (o:=.lst (z_g Th))
 dsimp only [gName]
 generalize upd (upd J5 a6 (.lst (z_g m3))) p7 (.lst (z_g Th))=J7 at v7 f7 ⊢
 have s87:=s8.trans v7
 have gb':∀ {Ls:List Nat},Ls.length=W.knots->∀ x∈nG W.gates,x.1/2<Ls.length/\x.2/2<Ls.length:=fun {Ls} hL x hx=>by rw [hL];exact gb x hx
 refine ⟨_,rfl,_,rfl,p6,w,b,g,o,_,W,nG W.gates,rfl,v7 _ _ f6,hW.same s87,eG.symm,gb' rn,by lia,fun c1 rc1 J8 hc1 w1 hR1=>?_⟩
 refine ⟨_,rfl,_,rfl,p7,w,b,g,o,_,W,nG W.gates,rfl,w1 _ _ f7,(hW.same s87).same w1,eG.symm,gb' lth,by lia,fun c2 rc2 J9 hc2 w2 hR2=>?_⟩
 have lc1:=hR1.lenS
 have lc2:=hR2.lenS
 rw [List.length_map] at lc1 lc2
 refine ⟨c1,c2,_,_,rfl,rfl,w2 _ _ hR1.1,hR2.1,small (by rw [List.length_map,List.length_map];lia),fun p8 hp8=>?_⟩
 have w3:=w1.trans (w2.trans (z_f hp8 (.lst (rc1.map V.ref++rc2.map V.ref))))
 have f8:=z_d (H:=J9) (a:=p8) (o:=.lst (rc1.map V.ref++rc2.map V.ref))
 dsimp only [gName]
 generalize upd J9 p8 (.lst (rc1.map V.ref++rc2.map V.ref))=JA at w3 f8 ⊢
 have s8A:=s87.trans w3
 have v8A:=v7.trans w3
 refine ⟨_,rfl,_,rfl,_,rfl,p5,w,b,g,o,_,W,nG W.gates,rfl,v8A _ _ f58,hW.same s8A,eG.symm,gb' lbg,by lia,fun c3 rc3 JB hc3 w4 hR3=>?_⟩
 refine ⟨zl2,fun t1 ht1=>⟨_,rfl,_,rfl,zl3,fun t0 ht0=>?_⟩⟩
 have w5:=w4.trans ((z_f ht1 (.tup [.int (W.ins:Int),.ref c3])).trans (z_f ht0 (.tup [.ref t1,.ref p5,.ref p5])))
 dsimp only [gName]
 generalize upd (upd JB t1 (.tup [.int (W.ins:Int),.ref c3])) t0 (.tup [.ref t1,.ref p5,.ref p5])=JC at w5 ⊢
 have v8C:=v8A.trans w5
 have f8C:=w5 _ _ f8
 have f7C:=(w3.trans w5) _ _ f7
 have s8C:=s8.trans v8C
 refine ⟨_,rfl,_,rfl,_,_,rfl,rfl,_,rfl,_,_,rfl,rfl,_,rfl,zl2,fun n1 hn1=>⟨_,rfl,_,rfl,zl3,fun y1 hy1=>?_⟩⟩
 have x1:=z_f hn1 (.tup [.int ((W.first:Int)-1+(W.ins:Int)),.ref p8])
 have x2:=z_f hy1 (.tup [.ref n1,.ref p6,.ref p7])
 have k1':=x2 _ _ (z_d (H:=JC) (a:=n1) (o:=.tup [.int ((W.first:Int)-1+(W.ins:Int)),.ref p8]))
 have k2':=z_d (H:=upd JC n1 (.tup [.int ((W.first:Int)-1+(W.ins:Int)),.ref p8])) (a:=y1) (o:=.tup [.ref n1,.ref p6,.ref p7])
 have x12:=x1.trans x2
 dsimp only
 generalize upd (upd JC n1 (.tup [.int ((W.first:Int)-1+(W.ins:Int)),.ref p8])) y1 (.tup [.ref n1,.ref p6,.ref p7])=JD at k1' k2' x12 ⊢
 have s8D:=s8C.trans x12
 refine ⟨_,rfl,_,_,rfl,rfl,_,rfl,w,_,_,_,rfl,rfl,SqT.of (s8D _ _ hW.w),rfl,g,_,rfl,.inl (SqL.of (s8D _ _ hG.1)),fun g2 hg2=>⟨zl2,fun n2 hn2=>⟨_,rfl,_,rfl,zl3,fun y2 hy2=>⟨zl3,fun pr hpr=>?_⟩⟩⟩⟩
 have z1:=z_f hg2 (.lst (gr.map V.ref))
 have z2:=z_f hn2 (.tup [.int ((W.first:Int)-1),.ref g2])
 have z3:=z_f hy2 (.tup [.ref n2,.ref p4,.ref p4])
 have z4:=z_f hpr (.lst [.ref t0,.ref y1,.ref y2])
 have zz:=z1.trans (z2.trans (z3.trans z4))
 have xz:=x12.trans zz
 refine q pr t0 y1 y2 n1 n2 p8 g2 p6 p4 p7 p4 (rc1.map V.ref++rc2.map V.ref) (gr.map V.ref) _ _ _ (s8C.trans xz) z_d (zz _ _ k2') (z4 _ _ z_d) (zz _ _ k1') (xz _ _ f8C) ?_ ((z3.trans z4) _ _ z_d) ((z2.trans (z3.trans z4)) _ _ z_d) ?_ ((v8C.trans xz) _ _ f6) ((v8C.trans xz) _ _ f48)
 ·rw [List.length_append,List.length_map,List.length_map]
  lia
 ·rw [hgl]
  lia
theorem g_e(T:Tx w K mg A)(G_L_end:FnOk P w K mg base CX0 1 A.a_L_end A.d_L_end ["_law_ends", "_law_end_here"] u_e):FnOk P w K mg base CX0 2 A.a_L_twin A.d_L_twin ["_law_work_here", "_law_row_here"] q_n:=by
 refine T.F_L_twin.ok sc_L_twin (fun vs H Q E h=>?_) (fun cdv A' outer s H vs Q E hr h=>?_)
 ·obtain ⟨w,b,g,o,r,A1,rw,rfl,hW,ok,h12,hr0,hrl,hrd,q⟩:=h
  rfl
 obtain ⟨w,b,g,o,r,A1,rw,rfl,hW,ok,h12,hr0,hrl,hrd,q⟩:=h
 refine ⟨_,(z_e (z_v (i:=2) sc_L_twin.nd rfl (Or.inl rfl) (z_k z_x (z_k z_x z_c (z_l ix_tup0 (pv 0) z_c (fun _ _=>rfl))) (z_m z_s rfl T.len PySem.boot_len (z_a (z_l ix_tup0 (pv 0) z_c (fun _ _=>rfl)) z_b))))
  (z_e (z_v (i:=3) sc_L_twin.nd rfl (Or.inr rfl) (y_s [] (fun _ _ h=>h) rfl (y_j rfl T.range (z_a (pv 2) z_b)) (fun _ _ _ _=>y_a) (fun _ _ _ _=>(z_k y_h z_c (pv 0))) rfl (show ∀ j∈([]:List Nat),j<8 by decide) (show (["_law_k"]:List Str).Nodup by decide +kernel)))
  (z_e (z_v (i:=4) sc_L_twin.nd rfl (Or.inl rfl) (x_i z_b))
  (z_e (x_q PassesOwn.never rfl (y_j rfl T.range (z_a (z_m z_s rfl T.len PySem.boot_len (z_a (z_l ix_tup0 (pv 0) z_c (fun _ _=>rfl)) z_b)) z_b)) (z_t (i:=5) sc_L_twin.nd rfl (Or.inl rfl))
    (z_e (z_v (i:=6) sc_L_twin.nd rfl (Or.inl rfl) (y_e (z_a (z_j G_L_end (hr.mono (by first | decide | lia)) rfl T.M_L_end T.F_L_end.kp T.B_L_end .nil pass0 (z_a (pv 3) (z_a (z_l ix_tup0 (z_l ix_list0 (z_l ix_tup0 (pv 0) z_c (fun _ _=>rfl)) (pv 5) (fun _ _=>rfl)) z_c (fun _ _=>rfl)) z_b))) (z_a (z_j G_L_end (hr.mono (by first | decide | lia)) rfl T.M_L_end T.F_L_end.kp T.B_L_end .nil pass0 (z_a (pv 3) (z_a (z_l ix_tup0 (z_l ix_list0 (z_l ix_tup0 (pv 0) z_c (fun _ _=>rfl)) (pv 5) (fun _ _=>rfl)) z_c (fun _ _=>rfl)) z_b))) z_b))))
  (z_e (x_j (z_z s_l (z_k x_m (z_l ix_list0 (pv 1) (pv 5) (fun _ _=>rfl)) z_c) z_c (nomark _)) (z_h (y_l (w_u PySem.F.plainAttrs_list PySem.F.slot_list_append PySem.F.type_list_append x_a (pv 4) (z_a (pv 6) z_b)))) y_c)
  (z_e (y_l (w_u PySem.F.plainAttrs_list PySem.F.slot_list_append PySem.F.type_list_append x_a (pv 4) (z_a (pv 6) z_b)))
  (z_h (y_l (w_u PySem.F.plainAttrs_list PySem.F.slot_list_append PySem.F.type_list_append x_a (pv 3) (z_a (z_k y_h z_c (z_k v_n (z_k z_x (pv 2) (z_m z_s rfl T.len PySem.boot_len (z_a (pv 4) z_b))) z_c)) z_b))))))))
  (z_e (u_m [3] sc_L_twin.nd (i:=7) rfl (Or.inl rfl) (fun _ _ h=>h) rfl (y_d (z_l ix_tup0 (pv 0) z_c (fun _ _=>rfl))) (fun _ _ _ _=>y_a) (fun _ _ _ _=>(y_e (z_a (z_l ix_tup0 (pv 0) z_c (fun _ _=>rfl)) (z_a (z_j G_L_end (hr.mono (by first | decide | lia)) rfl T.M_L_end T.F_L_end.kp T.B_L_end .nil pass0 (z_a (pv 1) (z_a (z_l ix_tup0 (pv 0) z_c (fun _ _=>rfl)) z_b))) z_b)))) rfl (show ∀ j∈([3]:List Nat),j<8 by decide) (show (["_law_box", "_law_ends"]:List Str).Nodup by decide +kernel) (by with_unfolding_all rfl))
  (z_h (z_y (y_e (z_a (y_e (z_a (z_l ix_tup0 (pv 0) z_c (fun _ _=>rfl)) (z_a (pv 7) (z_a (pv 4) (z_a (y_s [3] (fun _ _ h=>h) rfl (y_d (z_l ix_tup0 (pv 0) z_c (fun _ _=>rfl))) (fun _ _ _ _=>y_a) (fun _ _ _ _=>(z_j G_L_end (hr.mono (by first | decide | lia)) rfl T.M_L_end T.F_L_end.kp T.B_L_end .nil pass0 (z_a (pv 1) (z_a (pv 0) z_b)))) rfl (show ∀ j∈([3]:List Nat),j<8 by decide) (show (["_law_end_here", "_law_ends"]:List Str).Nodup by decide +kernel)) z_b))))) (z_a (pv 3) z_b)))))))))),?_⟩
 obtain ⟨bs,hB⟩:=hW.b
 obtain ⟨gr,hG⟩:=hW.g
 have h1:=A1.knots_is
 have h2:=A1.first_is
 have oi:=ok.ins
 have ob:=ok.boxes
 have hbl:(bs.map V.ref).length=A1.boxes.length:=by rw [List.length_map,hB.length]
 have hgl:(gr.map V.ref).length=A1.gates.length:=by rw [List.length_map,hG.length]
 have ef:1+(A1.ins:Int)+(((bs.map V.ref).length:Nat):Int)=(A1.first:Int):=by rw [hbl];lia
 have eG:=o_k ok.gate
 have hG':PrsR H g gr (gI (nG A1.gates)):=by rw [eG];exact hG
 have hA:∀ j c d,(nG A1.gates)[j]? = some (c,d)->c/2<A1.first+j/\d/2<A1.first+j:=fun j c d hj=>by
  have hgo:GateOk (1+(A1.ins+A1.boxes.length)) A1.gates:=by
   have:=ok.gate
   rw [h2,Nat.add_assoc] at this
   exact this
  obtain ⟨c1,c2⟩:=o_r hgo j _ hj
  have c1':c<2*(1+(A1.ins+A1.boxes.length)+j):=c1
  have c2':d<2*(1+(A1.ins+A1.boxes.length)+j):=c2
  lia
 refine ⟨_,rfl,w,_,_,_,rfl,rfl,SqT.of hW.w,rfl,_,_,rfl,rfl,_,rfl,w,_,_,_,rfl,rfl,SqT.of hW.w,rfl,_,_,rfl,.inl ⟨_,SqL.of hB.1,rfl⟩,_,_,rfl,rfl,?_⟩
 dsimp only [gName]
 rw [ef]
 refine ⟨_,rfl,_,rfl,by lia,by lia,y_r (lo:=0) (fun i ys J=>H=J/\ys=z_g (rwE id i)) ⟨rfl,rfl⟩ ?_ ?_ ?_⟩
 ·rintro i ys J hi ⟨_,rfl⟩
  rw [z_o,y_t]
  exact y_b (by lia)
 ·rintro i ys J hi ⟨rfl,rfl⟩
  unfold tYes
  refine iteT ⟨_,rfl,_,_,rfl,rfl,.inl ⟨by decide,by decide⟩,rfl,?_⟩
  rw [s_v,y_g]
  show _++[V.int (2*(0+(i:Int)))]=_++[V.int ((2*i:Nat):Int)]
  rw [Int.zero_add,Int.natCast_mul]
  rfl
 rintro ys J ⟨rfl,rfl⟩ p3 hp3
 rw [show ((A1.first:Nat):Int).toNat=A1.first from Int.toNat_natCast _]
 have s1:=z_f hp3 (.lst (z_g (rwE id A1.first)))
 have f3:=z_d (H:=H) (a:=p3) (o:=.lst (z_g (rwE id A1.first)))
 dsimp only [gName]
 generalize upd H p3 (.lst (z_g (rwE id A1.first)))=H1 at s1 f3 ⊢
 refine ⟨zl0,fun p4 hp4=>?_⟩
 have t4:=z_f hp4 (.lst [])
 have f4:=z_d (H:=H1) (a:=p4) (o:=.lst [])
 have s4:=s1.trans t4
 have f34:=t4 _ _ f3
 have n34:p3≠p4:=z_i f3 hp4
 have hp4H:=s1.free hp4
 dsimp only [gName]
 generalize upd H1 p4 (.lst [])=H4 at t4 f4 s4 f34 ⊢
 refine w_l (fun σ J=>∃ (x5 x6:Option V) (tw:Nat->Nat) (gs:List (Nat×Nat)) (rs:List Addr),σ=[some (.ref w),some (.ref r),some (.int (A1.first:Int)),some (.ref p3),some (.ref p4),x5,x6,none]/\Same H J/\J p3=some (.lst (z_g (rwE tw (A1.first+A1.gates.length))))/\PrsR J p4 rs (gI gs)/\TwI A1.first (nG A1.gates) A1.gates.length tw gs/\twR A1.first (nG A1.gates) rw A1.gates.length=(tw,gs)) (fun D hD=>?_) ?_
 ·refine ⟨_,rfl,w,_,_,_,rfl,rfl,SqT.of (s4 _ _ hW.w),rfl,_,_,rfl,.inl ⟨_,SqL.of (s4 _ _ hG.1),rfl⟩,_,rfl,by rw [hgl];lia,by rw [hgl];lia,v_k (lo:=0) (fun k σ J=>∃ (x5 x6:Option V) (tw:Nat->Nat) (gs:List (Nat×Nat)) (rs:List Addr),σ=[some (.ref w),some (.ref r),some (.int (A1.first:Int)),some (.ref p3),some (.ref p4),x5,x6,none]/\Same H J/\J p3=some (.lst (z_g (rwE tw (A1.first+k))))/\PrsR J p4 rs (gI gs)/\TwI A1.first (nG A1.gates) k tw gs/\twR A1.first (nG A1.gates) rw k=(tw,gs)) ⟨_,_,id,[],[],rfl,s4,f34,⟨f4,.nil⟩,TwI.start,rfl⟩ ?_ ?_⟩
  ·rintro k σ J hk ⟨x5,x6,tw,gs,rs,rfl,sJ,fJ,gJ,hT,hR⟩
   rw [hgl] at hk
   have hk':k<A1.gates.length:=by lia
   have kl:=hT.kl
   have l2:=hT.l2
   have hgk:(nG A1.gates)[k]? = some ((nG A1.gates)[k]'(by rw [v_l];exact hk')):=List.getElem?_eq_getElem _
   obtain ⟨rk,hrk,hrt⟩:=hG'.getS hgk
   generalize (nG A1.gates)[k]'(by rw [v_l];exact hk')=ab at hgk hrt
   obtain ⟨na,nb⟩:=ab
   obtain ⟨la,lb⟩:=hA k na nb hgk
   have hat:atI (gr.map V.ref) ((0:Int)+(k:Int))=some (.ref rk):=by rw [Int.zero_add];exact at_ref hrk
   have hWJ:=sJ _ _ hW.w
   have hGJ:=sJ _ _ hG.1
   have hrJ:=sJ _ _ hrt
   have ln:(rwE tw (A1.first+k)).length=A1.first+k:=y_t _ _
   obtain ⟨v,hv,_,hve⟩:=s_x (ns:=rw) (i:=0+(k:Int)) (by lia) (by lia)
   rw [show (0+(k:Int)).toNat=k by lia] at hve
   refine ⟨_,rfl,_,rfl,w,_,_,_,rfl,rfl,SqT.of hWJ,rfl,_,rfl,g,_,_,_,rfl,rfl,SqL.of hGJ,hat,rk,_,_,_,rfl,rfl,SqT.of hrJ,rfl,p3,_,nb,rfl,fJ,by rw [ln];exact lb,_,rfl,_,rfl,w,_,_,_,rfl,rfl,SqT.of hWJ,rfl,_,rfl,g,_,_,_,rfl,rfl,SqL.of hGJ,hat,rk,_,_,_,rfl,rfl,SqT.of hrJ,rfl,p3,_,na,rfl,fJ,by rw [ln];exact la,zl2,fun t ht=>?_⟩
   rw [w_a lb,w_a la]
   have u1:=z_f ht (.tup [.int ((eM tw nb:Nat):Int),.int ((eM tw na:Nat):Int)])
   have ft:=z_d (H:=J) (a:=t) (o:=.tup [.int ((eM tw nb:Nat):Int),.int ((eM tw na:Nat):Int)])
   have sJ1:=sJ.trans u1
   have fJ1:=u1 _ _ fJ
   have gJ1:=gJ.same u1
   dsimp only [gName]
   generalize upd J t (.tup [.int ((eM tw nb:Nat):Int),.int ((eM tw na:Nat):Int)])=J1 at u1 ft sJ1 fJ1 gJ1 ⊢
   have rsl:=gJ.lenS
   have push:∀ {J2:Hp} {rs2:List Addr} {gs2:List (Nat×Nat)},Same H J2->J2 p3=some (.lst (z_g (rwE tw (A1.first+k))))->PrsR J2 p4 rs2 (gI gs2)->J2 t=some (.tup [.int ((eM tw nb:Nat):Int),.int ((eM tw na:Nat):Int)])->Same H (upd J2 p4 (.lst (rs2.map V.ref++[.ref t])))/\(upd J2 p4 (.lst (rs2.map V.ref++[.ref t]))) p3=some (.lst (z_g (rwE tw (A1.first+k))))/\PrsR (upd J2 p4 (.lst (rs2.map V.ref++[.ref t]))) p4 (rs2++[t]) (gI (gs2++[(eM tw nb,eM tw na)]))/\(upd J2 p4 (.lst (rs2.map V.ref++[.ref t]))) t=some (.tup [.int ((eM tw nb:Nat):Int),.int ((eM tw na:Nat):Int)]):=fun {J2 rs2 gs2} a b c d=>by
    have ntp:t≠p4:=fun z=>by rw [z,c.1] at d;cases d
    exact ⟨x_c a hp4H _,by rw [z_r n34];exact b,c.pushS (p:=(eM tw nb,eM tw na)) (Same.refl J2) d,by rw [z_r ntp];exact d⟩
   refine w_l (fun σ J=>∃ (ex:List (Nat×Nat)) (rs:List Addr),σ=[some (.ref w),some (.ref r),some (.int (A1.first:Int)),some (.ref p3),some (.ref p4),some (.int (0+(k:Int))),some (.ref t),none]/\(ex=if rw.getD k 0%3=1 then [(eM tw nb,eM tw na)] else [])/\Same H J/\J p3=some (.lst (z_g (rwE tw (A1.first+k))))/\PrsR J p4 rs (gI (gs++ex))/\J t=some (.tup [.int ((eM tw nb:Nat):Int),.int ((eM tw na:Nat):Int)])) (fun D' hD'=>?_) ?_
   ·refine ⟨_,rfl,_,rfl,r,_,_,_,rfl,rfl,SqL.of (sJ1 _ _ hr0),hv,_,_,rfl,rfl,(by show (0:Int)<3;decide),rfl,_,rfl,?_⟩
    have hc:decide (V.int (v%3)=V.int 1)=decide (rw.getD k 0%3=1):=by
     rw [<-hve]
     exact decide_eq_decide.mpr ⟨fun e=>by injection e,fun e=>by rw [e]⟩
    refine ite2 (fun c=>?_) (fun c=>hD' _ _ ⟨[],rs,rfl,(by rw [if_neg (fun h=>c (hc.trans (decide_eq_true h)))]),sJ1,fJ1,by rw [List.append_nil];exact gJ1,ft⟩)
    obtain ⟨z1,z2,z3,z4⟩:=push sJ1 fJ1 gJ1 ft
    exact ⟨_,rfl,.inl ⟨rfl,_,SqL.of gJ1.1⟩,_,rfl,p4,_,_,rfl,rfl,gJ1.1,y_b (by rw [List.length_map];lia),hD' _ _ ⟨_,_,rfl,(by rw [if_pos (of_decide_eq_true (hc.symm.trans c))]),z1,z2,z3,z4⟩⟩
   rintro σ J2 ⟨ex,rs2,rfl,hexd,sJ2,fJ2,gJ2,ft2⟩
   have hex:ex=[]\/ex=[(eM tw nb,eM tw na)]:=by rw [hexd];split<;>simp
   have exl:ex.length<=1:=by rcases hex with rfl | rfl<;>simp
   have rsl2:=gJ2.lenS
   rw [List.length_append] at rsl2
   obtain ⟨z1,z2,z3,z4⟩:=push sJ2 fJ2 gJ2 ft2
   refine ⟨_,rfl,.inl ⟨rfl,_,SqL.of gJ2.1⟩,_,rfl,p4,_,_,rfl,rfl,gJ2.1,y_b (by rw [List.length_map];lia),?_⟩
   generalize upd J2 p4 (.lst (rs2.map V.ref++[.ref t]))=J3 at z1 z2 z3 z4 ⊢
   have z3l:=z3.lenS
   have ev:2*((A1.first:Int)+((((rs2++[t]).map V.ref).length:Nat):Int)-1)=((2*(A1.first+(gs++ex).length):Nat):Int):=by
    rw [List.length_map,List.length_append,rsl2,List.length_append]
    show 2*((A1.first:Int)+((gs.length+ex.length+1:Nat):Int)-1)=_
    lia
   refine ⟨_,rfl,.inl ⟨rfl,_,SqL.of z2⟩,_,rfl,_,rfl,_,_,rfl,.inl ⟨_,SqL.of z3.1,rfl⟩,_,_,rfl,rfl,_,_,rfl,rfl,_,_,rfl,rfl,.inl ⟨by decide,by decide⟩,p3,_,_,rfl,rfl,z2,y_b (by rw [z_o,ln];lia),?_⟩
   dsimp only
   rw [ev,<-y_g]
   refine ⟨_,_,twU tw (A1.first+k) (A1.first+(gs++ex).length),gs++ex++[(eM tw nb,eM tw na)],rs2++[t],rfl,x_c z1 hp3 _,?_,?_,hT.step hgk la lb hA hex,twR_step hR hgk hexd⟩
   ·rw [z_d,<-Nat.add_assoc,s_v,r_q (f:=twU tw (A1.first+k) (A1.first+(gs++ex).length)) (g:=tw) fun j hj=>s_j (by lia)]
    unfold twU
    rw [if_pos rfl]
   ·have ne:∀ {r:Addr} {xs:List V},J3 r=some (.tup xs)->r≠p3:=fun e z=>by rw [z,z2] at e;cases e
    exact ⟨by rw [z_r n34.symm];exact z3.1,z_w (fun r p e=>by rw [z_r (ne e)];exact e) z3.2⟩
  ·rintro σ J ⟨x5,x6,tw,gs,rs,rfl,sJ,fJ,gJ,hT,hR⟩
   rw [hgl,Int.toNat_natCast] at fJ hT hR
   exact hD _ _ ⟨x5,x6,tw,gs,rs,rfl,sJ,fJ,gJ,hT,hR⟩
 rintro σ J ⟨x5,x6,tw,gs,rs,rfl,sJ,fJ,gJ,hT,hR⟩
 have eW1:twW A1 rw=twB A1 tw gs:=by unfold twW;rw [hR]
 rw [eW1] at q
 obtain ⟨TT,okB⟩:=twB_is ok hT h12
 have l2:=hT.l2
 have ln:(rwE tw (A1.first+A1.gates.length)).length=A1.first+A1.gates.length:=y_t _ _
 refine ⟨_,rfl,w,_,_,_,rfl,rfl,SqT.of (sJ _ _ hW.w),rfl,b,rfl,⟨_,SqL.of (sJ _ _ hB.1)⟩,x_w (xs:=bs.map V.ref) (fun i ys J'=>Same J J'/\∃ xs:List Addr,ys=xs.map V.ref/\Paired (fun r (p:Int×Int)=>J' r=some (.tup [.int p.1,.int p.2])) xs (((twB A1 tw gs).boxes).take i)) ⟨Same.refl J,[],rfl,.nil⟩ ?_ ?_ ?_ ?_⟩
 ·rintro i ys J' _ ⟨s',_⟩
  exact SqL.of (s' _ _ (sJ _ _ hB.1))
 ·rintro i ys J' hi ⟨_,xs,rfl,hp⟩
  have:=hp.length
  rw [List.length_take] at this
  rw [hbl] at hi
  rw [List.length_map]
  exact y_b (by lia)
 ·rintro i v ys J' hv ⟨s',xs,rfl,hp⟩
  rw [List.getElem?_map] at hv
  obtain ⟨rb,hrb,rfl⟩:=Option.map_eq_some_iff.mp hv
  obtain ⟨pb,hpb,hbt⟩:=y_v hB.2 hrb
  obtain ⟨c1,c2,c3⟩:=ok.box pb (List.mem_of_getElem? hpb)
  obtain ⟨ne,hne⟩:∃ n:Nat,pb.2=(n:Int):=⟨pb.2.toNat,by lia⟩
  have ebt:=s' _ _ (sJ _ _ hbt)
  rw [hne] at ebt
  unfold tYes
  refine iteT ⟨_,rfl,rb,_,_,_,rfl,rfl,SqT.of ebt,rfl,_,rfl,_,rfl,rb,_,_,_,rfl,rfl,SqT.of ebt,rfl,p3,_,ne,rfl,s' _ _ fJ,by rw [ln];lia,zl2,fun t ht=>?_⟩
  rw [w_a (by lia)]
  have u1:=z_f ht (.tup [.int pb.1,.int ((eM tw ne:Nat):Int)])
  refine ⟨s'.trans u1,xs++[t],by rw [List.map_append];rfl,?_⟩
  rw [y_u (x:=(pb.1,((eM tw ne:Nat):Int))) (by show (List.map _ A1.boxes)[i]? = _;rw [List.getElem?_map,hpb];show some (pb.1,((eM tw pb.2.toNat:Nat):Int))=_;rw [hne];rfl)]
  refine x_g ?_ (z_w (fun _ _ e=>u1 _ _ e) hp)
  exact z_d
 rintro ys J5 ⟨s5,xs,rfl,hxs⟩ pbx hpbx
 rw [List.length_map,hB.length,List.take_of_length_le (by rw [TT.bl];exact Nat.le_refl _)] at hxs
 have PB:=PrsR.mk hxs hpbx
 have u5:=s5.trans (z_f hpbx (.lst (xs.map V.ref)))
 have s05:=sJ.trans u5
 dsimp only [gName]
 generalize upd J5 pbx (.lst (xs.map V.ref))=J6 at PB u5 s05 ⊢
 refine ⟨_,rfl,w,_,_,_,rfl,rfl,SqT.of (s05 _ _ hW.w),rfl,_,rfl,_,rfl,_,rfl,w,_,_,_,rfl,rfl,SqT.of (s05 _ _ hW.w),rfl,o,rfl,⟨_,SqL.of (s05 _ _ hW.o)⟩,x_w (xs:=A1.outs.map V.int) (fun i ys J'=>J6=J'/\ys=(((twB A1 tw gs).outs).take i).map V.int) ⟨rfl,rfl⟩ ?_ ?_ ?_ ?_⟩
 ·rintro i ys J' _ ⟨rfl,_⟩
  exact SqL.of (s05 _ _ hW.o)
 ·rintro i ys J' hi ⟨_,rfl⟩
  have:=ok.outs
  rw [List.length_map] at hi
  rw [List.length_map,List.length_take]
  exact y_b (by lia)
 ·rintro i v ys J' hv ⟨rfl,rfl⟩
  rw [List.getElem?_map] at hv
  obtain ⟨ov,hov,rfl⟩:=Option.map_eq_some_iff.mp hv
  obtain ⟨c2,c3⟩:=ok.out ov (List.mem_of_getElem? hov)
  obtain ⟨ne,rfl⟩:∃ n:Nat,ov=(n:Int):=⟨ov.toNat,by lia⟩
  unfold tYes
  refine iteT ⟨_,rfl,_,rfl,p3,_,ne,rfl,u5 _ _ fJ,by rw [ln];lia,rfl,?_⟩
  rw [w_a (by lia),y_u (TT.ot i ne hov),List.map_append]
  rfl
 rintro ys J7 ⟨rfl,rfl⟩ po hpo
 rw [List.length_map,List.take_of_length_le (by rw [TT.ol];exact Nat.le_refl _)]
 have u7:=z_f hpo (.lst ((twB A1 tw gs).outs.map V.int))
 have fo:=z_d (H:=J6) (a:=po) (o:=.lst ((twB A1 tw gs).outs.map V.int))
 generalize upd J6 po (.lst ((twB A1 tw gs).outs.map V.int))=J8 at u7 fo ⊢
 refine ⟨zl4,fun pw hpw=>⟨_,rfl,zl2,fun pt hpt=>?_⟩⟩
 have u8:=z_f hpw (.tup [.int (A1.ins:Int),.ref pbx,.ref p4,.ref po])
 have fw:=z_d (H:=J8) (a:=pw) (o:=.tup [.int (A1.ins:Int),.ref pbx,.ref p4,.ref po])
 have u9:=z_f hpt (.tup [.ref pw,.ref p3])
 have u69:=u7.trans (u8.trans u9)
 refine q pt pw pbx p4 po p3 tw _ (s05.trans u69) z_d ⟨u9 _ _ fw,⟨xs,PB.same u69⟩,⟨rs,(gJ.same u5).same u69⟩,(u8.trans u9) _ _ fo⟩ okB (by show (gI gs).length<=24;rw [o_j];lia) TT ?_
 rw [h1,<-h2]
 exact u69 _ _ (u5 _ _ fJ)
theorem i_a(T:Tx w K mg A)(G_L_swapped:FnOk P w K mg base CX0 2 A.a_L_swapped A.d_L_swapped ["_law_ends", "_law_work_here"] u_u)(G_L_end:FnOk P w K mg base CX0 1 A.a_L_end A.d_L_end ["_law_ends", "_law_end_here"] u_e):FnOk P w K mg base CX0 3 A.a_L_joint A.d_L_joint ["_law_one", "_law_other"] s_d:=by
 refine T.F_L_joint.ok sc_L_joint (fun vs H Q E h=>?_) (fun cdv A' outer s H vs Q E hr h=>?_)
 ·obtain ⟨w,b,g,o,w2,b2,g2,o2,A1,B1,rfl,hA,hB,okA,okB,hi,kA,kB,q⟩:=h
  rfl
 obtain ⟨w,b,g,o,w2,b2,g2,o2,A1,B1,rfl,hA,hB,okA,okB,hi,kA,kB,q⟩:=h
 refine ⟨_,(z_e (z_v (i:=2) sc_L_joint.nd rfl (Or.inr rfl) (z_l ix_tup0 (pv 0) z_c (fun _ _=>rfl)))
  (z_e (z_v (i:=3) sc_L_joint.nd rfl (Or.inr rfl) (z_k z_x (z_m z_s rfl T.len PySem.boot_len (z_a (z_l ix_tup0 (pv 0) z_c (fun _ _=>rfl)) z_b)) (z_m z_s rfl T.len PySem.boot_len (z_a (z_l ix_tup0 (pv 1) z_c (fun _ _=>rfl)) z_b))))
  (z_e (z_v (i:=4) sc_L_joint.nd rfl (Or.inl rfl) (x_i z_b))
  (z_e (x_q PassesOwn.never rfl (y_d (x_i (z_a (y_e (z_a (pv 0) (z_a z_c (z_a z_c z_b)))) (z_a (y_e (z_a (pv 1) (z_a (z_m z_s rfl T.len PySem.boot_len (z_a (z_l ix_tup0 (pv 0) z_c (fun _ _=>rfl)) z_b)) (z_a (z_m z_s rfl T.len PySem.boot_len (z_a (z_l ix_tup0 (pv 0) z_c (fun _ _=>rfl)) z_b)) z_b)))) z_b)))) (y_x rfl (z_u (z_t (i:=5) sc_L_joint.nd rfl (Or.inl rfl)) (z_u (z_t (i:=6) sc_L_joint.nd rfl (Or.inr rfl)) (z_u (z_t (i:=7) sc_L_joint.nd rfl (Or.inr rfl)) y_o))))
    (z_e (z_v (i:=8) sc_L_joint.nd rfl (Or.inr rfl) (z_k v_m (y_s [] (fun _ _ h=>h) rfl (y_j rfl T.range (z_a (z_k z_x z_c (pv 2)) z_b)) (fun _ _ _ _=>y_a) (fun _ _ _ _=>(z_k y_h z_c (pv 0))) rfl (show ∀ j∈([]:List Nat),j<12 by decide) (show (["_law_k"]:List Str).Nodup by decide +kernel)) (y_s [2,6] (fun _ _ h=>h) rfl (y_j rfl T.range (z_a (z_m z_s rfl T.len PySem.boot_len (z_a (z_l ix_tup0 (pv 5) z_c (fun _ _=>rfl)) z_b)) z_b)) (fun _ _ _ _=>y_a) (fun _ _ _ _=>(z_k y_h z_c (z_k z_x (z_k z_x (z_k z_x z_c (pv 1)) (pv 2)) (pv 0)))) rfl (show ∀ j∈([2,6]:List Nat),j<12 by decide) (show (["_law_k", "_law_ins", "_law_box"]:List Str).Nodup by decide +kernel))))
  (z_h (y_l (w_u PySem.F.plainAttrs_list PySem.F.slot_list_append PySem.F.type_list_append x_a (pv 4) (z_a (z_k v_m (pv 8) (y_s [2,3,7] (fun _ _ h=>h) rfl (y_j rfl T.range (z_a (z_m z_s rfl T.len PySem.boot_len (z_a (z_l ix_tup0 (pv 5) z_c (fun _ _=>rfl)) z_b)) z_b)) (fun _ _ _ _=>y_a) (fun _ _ _ _=>(z_k y_h z_c (z_k z_x (z_k z_x (z_k z_x (z_k z_x z_c (pv 1)) (pv 2)) (pv 3)) (pv 0)))) rfl (show ∀ j∈([2,3,7]:List Nat),j<12 by decide) (show (["_law_k", "_law_ins", "_law_many", "_law_gate"]:List Str).Nodup by decide +kernel))) z_b))))))
  (z_e (z_v (i:=9) sc_L_joint.nd rfl (Or.inl rfl) (x_i z_b))
  (z_e (z_v (i:=10) sc_L_joint.nd rfl (Or.inl rfl) (x_i z_b))
  (z_e (x_q PassesOwn.never rfl (g_r rfl T.zip (z_a (x_i (z_a (pv 0) (z_a (pv 1) z_b))) (z_a (pv 4) z_b))) (y_x rfl (z_u (z_t (i:=5) sc_L_joint.nd rfl (Or.inl rfl)) (z_u (z_t (i:=8) sc_L_joint.nd rfl (Or.inr rfl)) y_o)))
    (z_e (z_v (i:=9) sc_L_joint.nd rfl (Or.inl rfl) (z_k v_m (pv 9) (y_s [8] (fun _ _ h=>h) rfl (y_d (z_l ix_tup0 (pv 5) z_c (fun _ _=>rfl))) (fun _ _ _ _=>y_a) (fun _ _ _ _=>(y_e (z_a (z_l h_o (pv 0) z_c (fun _ _=>rfl)) (z_a (z_j G_L_end (hr.mono (by first | decide | lia)) rfl T.M_L_end T.F_L_end.kp T.B_L_end .nil pass0 (z_a (pv 1) (z_a (z_l h_o (pv 0) z_c (fun _ _=>rfl)) z_b))) z_b)))) rfl (show ∀ j∈([8]:List Nat),j<12 by decide) (show (["_law_box", "_law_row_here"]:List Str).Nodup by decide +kernel))))
  (z_h (z_v (i:=10) sc_L_joint.nd rfl (Or.inl rfl) (z_k v_m (pv 10) (y_s [8] (fun _ _ h=>h) rfl (y_d (z_l ix_tup0 (pv 5) z_c (fun _ _=>rfl))) (fun _ _ _ _=>y_a) (fun _ _ _ _=>(z_j G_L_end (hr.mono (by first | decide | lia)) rfl T.M_L_end T.F_L_end.kp T.B_L_end .nil pass0 (z_a (pv 1) (z_a (pv 0) z_b)))) rfl (show ∀ j∈([8]:List Nat),j<12 by decide) (show (["_law_end_here", "_law_row_here"]:List Str).Nodup by decide +kernel)))))))
  (z_e (z_v (i:=11) sc_L_joint.nd rfl (Or.inl rfl) (z_k v_m (z_j G_L_swapped (hr.mono (by first | decide | lia)) rfl T.M_L_swapped T.F_L_swapped.kp T.B_L_swapped .nil pass0 (z_a (z_l ix_list0 (pv 4) z_c (fun _ _=>rfl)) (z_a (pv 0) z_b))) (z_j G_L_swapped (hr.mono (by first | decide | lia)) rfl T.M_L_swapped T.F_L_swapped.kp T.B_L_swapped .nil pass0 (z_a (z_l ix_list0 (pv 4) z_c (fun _ _=>rfl)) (z_a (pv 1) z_b)))))
  (z_h (z_y (y_e (z_a (y_e (z_a (pv 2) (z_a (pv 9) (z_a (pv 11) (z_a (pv 10) z_b))))) (z_a (pv 4) z_b))))))))))))),?_⟩
 obtain ⟨ba,hba⟩:=hA.b
 obtain ⟨ga,hga⟩:=hA.g
 obtain ⟨bb,hbb⟩:=hB.b
 obtain ⟨gb,hgb⟩:=hB.g
 have h1:=A1.knots_is
 have h2:=B1.knots_is
 have hbal:(ba.map V.ref).length=A1.boxes.length:=by rw [List.length_map,hba.length]
 have hgal:(ga.map V.ref).length=A1.gates.length:=by rw [List.length_map,hga.length]
 have hbbl:(bb.map V.ref).length=B1.boxes.length:=by rw [List.length_map,hbb.length]
 have hgbl:(gb.map V.ref).length=B1.gates.length:=by rw [List.length_map,hgb.length]
 refine ⟨_,rfl,w,_,_,_,rfl,rfl,SqT.of hA.w,rfl,?_⟩
 refine ⟨_,rfl,w,_,_,_,rfl,rfl,SqT.of hA.w,rfl,_,_,rfl,.inl ⟨_,SqL.of hba.1,rfl⟩,_,rfl,w2,_,_,_,rfl,rfl,SqT.of hB.w,rfl,_,_,rfl,.inl ⟨_,SqL.of hbb.1,rfl⟩,_,_,rfl,rfl,?_⟩
 dsimp only [gName]
 rw [hbal,hbbl,show ((A1.boxes.length:Nat):Int)+((B1.boxes.length:Nat):Int)=((A1.boxes.length+B1.boxes.length:Nat):Int) by lia]
 refine ⟨zl0,fun p4 hp4=>?_⟩
 have s1:=z_f hp4 (.lst [])
 have f4:=z_d (H:=H) (a:=p4) (o:=.lst [])
 dsimp only [gName]
 generalize upd H p4 (.lst [])=H1 at s1 f4 ⊢
 refine w_l (fun σ J=>∃ (x5 x6 x7 x8:Option V) (l1 l2:Addr),σ=[some (.ref w),some (.ref w2),some (.int (A1.ins:Int)),some (.int ((A1.boxes.length+B1.boxes.length:Nat):Int)),some (.ref p4),x5,x6,x7,x8,none,none,none]/\Same H J/\J p4=some (.lst [.ref l1,.ref l2])/\J l1=some (.lst (z_g (rwE (k1 A1 B1) A1.knots)))/\J l2=some (.lst (z_g (rwE (k2 A1 B1) B1.knots)))) (fun D hD=>?_) ?_
 ·refine ⟨_,rfl,zl3,fun t1 ht1=>?_⟩
  have u1:=z_f ht1 (.tup [.ref w,.int 0,.int 0])
  have e1:=z_d (H:=H1) (a:=t1) (o:=.tup [.ref w,.int 0,.int 0])
  have f41:=u1 _ _ f4
  have s2:=s1.trans u1
  generalize upd H1 t1 (.tup [.ref w,.int 0,.int 0])=H2 at u1 e1 f41 s2 ⊢
  refine ⟨_,rfl,_,rfl,w,_,_,_,rfl,rfl,SqT.of (s2 _ _ hA.w),rfl,_,_,rfl,.inl ⟨_,SqL.of (s2 _ _ hba.1),rfl⟩,_,rfl,w,_,_,_,rfl,rfl,SqT.of (s2 _ _ hA.w),rfl,_,_,rfl,.inl ⟨_,SqL.of (s2 _ _ hga.1),rfl⟩,zl3,fun t2 ht2=>?_⟩
  rw [hbal,hgal]
  have u2:=z_f ht2 (.tup [.ref w2,.int ((A1.boxes.length:Nat):Int),.int ((A1.gates.length:Nat):Int)])
  have e2:=z_d (H:=H2) (a:=t2) (o:=.tup [.ref w2,.int ((A1.boxes.length:Nat):Int),.int ((A1.gates.length:Nat):Int)])
  have e12:=u2 _ _ e1
  have f42:=u2 _ _ f41
  have s3:=s2.trans u2
  generalize upd H2 t2 (.tup [.ref w2,.int ((A1.boxes.length:Nat):Int),.int ((A1.gates.length:Nat):Int)])=H3 at u2 e2 e12 f42 s3 ⊢
  refine ⟨zl2,fun pl hpl=>?_⟩
  have u3:=z_f hpl (.lst [.ref t1,.ref t2])
  have e3:=z_d (H:=H3) (a:=pl) (o:=.lst [.ref t1,.ref t2])
  have s4:=s3.trans u3
  have f43:=u3 _ _ f42
  have e13:=u3 _ _ e12
  have e23:=u3 _ _ e2
  have npl:p4≠pl:=z_i f42 hpl
  generalize upd H3 pl (.lst [.ref t1,.ref t2])=H4 at u3 e3 s4 f43 e13 e23 ⊢
  have keep:∀ {J:Hp} {a:Addr} {xs:List V} (x:HO),J p4=some (.lst xs)->a≠p4->∀ {y:HO},J a=some y->(upd J p4 x) a=some y:=fun {J a xs} x _ n {y} e=>by rw [z_r n];exact e
  refine ⟨pl,rfl,⟨_,SqL.of e3⟩,t_k (xs:=[.ref t1,.ref t2]) (fun i σ J=>∃ (x5 x6 x7 x8:Option V) (ls:List Addr),σ=[some (.ref w),some (.ref w2),some (.int (A1.ins:Int)),some (.int ((A1.boxes.length+B1.boxes.length:Nat):Int)),some (.ref p4),x5,x6,x7,x8,none,none,none]/\Same H J/\J pl=some (.lst [.ref t1,.ref t2])/\J t1=some (.tup [.ref w,.int 0,.int 0])/\J t2=some (.tup [.ref w2,.int ((A1.boxes.length:Nat):Int),.int ((A1.gates.length:Nat):Int)])/\J p4=some (.lst (ls.map V.ref))/\ls.length=i/\∀ k a,ls[k]? = some a->a≠p4/\J a=some (.lst (z_g (if k=0 then rwE (k1 A1 B1) A1.knots else rwE (k2 A1 B1) B1.knots)))) ⟨_,_,_,_,[],rfl,s4,e3,e13,e23,f43,rfl,fun k a h=>by simp at h⟩ ?_ ?_ ?_⟩
  ·rintro i σ J _ ⟨_,_,_,_,_,_,_,h,_⟩
   exact SqL.of h
  ·rintro i v σ J hv ⟨x5,x6,x7,x8,ls,rfl,sJ,hpJ,ht1J,ht2J,f4J,hll,hls⟩
   have hi2:i<2:=(List.getElem?_eq_some_iff.mp hv).1
   obtain ⟨t,wx,bx',gx',ox',X,bo,go,rfl,htJ,hX,hXi,hX40,hX20,hRW⟩:∃ (t wx bx' gx' ox':Addr) (X:Wk) (bo go:Nat),v = .ref t/\J t=some (.tup [.ref wx,.int (bo:Int),.int (go:Int)])/\IsWkA H wx bx' gx' ox' X/\X.ins=A1.ins/\X.boxes.length<=100/\X.gates.length<=100/\(if i=0 then rwE (k1 A1 B1) A1.knots else rwE (k2 A1 B1) B1.knots)=rw3 A1.ins X.boxes.length X.gates.length (A1.boxes.length+B1.boxes.length) bo go:=by
    rcases (show i=0\/i=1 by lia) with rfl | rfl
    ·cases hv
     exact ⟨t1,w,b,g,o,A1,0,0,rfl,ht1J,hA,rfl,by lia,by lia,rw3_A A1 B1⟩
    ·cases hv
     exact ⟨t2,w2,b2,g2,o2,B1,A1.boxes.length,A1.gates.length,rfl,ht2J,hB,hi.symm,by lia,by lia,rw3_B hi⟩
   obtain ⟨bs,hbs⟩:=hX.b
   obtain ⟨gs,hgs⟩:=hX.g
   have hbl:(bs.map V.ref).length=X.boxes.length:=by rw [List.length_map,hbs.length]
   have hgl:(gs.map V.ref).length=X.gates.length:=by rw [List.length_map,hgs.length]
   have oi:=okA.ins
   refine ⟨t,_,rfl,SqT.of htJ,rfl,_,_,rfl,_,_,rfl,_,_,rfl,rfl,?_⟩
   have ei:1+(A1.ins:Int)=((1+A1.ins:Nat):Int):=by lia
   refine ⟨_,rfl,_,_,rfl,rfl,((1+A1.ins:Nat):Int),congrArg (fun x=>[V.int x]) ei,by lia,by lia,y_r (lo:=0) (fun i ys J'=>J=J'/\ys=z_g (rwE id i)) ⟨rfl,rfl⟩ ?_ ?_ ?_⟩
   ·rintro j ys J' hj ⟨_,rfl⟩
    rw [z_o,y_t]
    exact y_b (by lia)
   ·rintro j ys J' hj ⟨rfl,rfl⟩
    unfold tYes
    refine iteT ⟨_,rfl,_,_,rfl,rfl,.inl ⟨by decide,by decide⟩,rfl,?_⟩
    rw [s_v,y_g]
    show _++[V.int (2*(0+(j:Int)))]=_++[V.int ((2*j:Nat):Int)]
    rw [Int.zero_add,Int.natCast_mul]
    rfl
   rintro ys J' ⟨rfl,rfl⟩ q1 hq1
   rw [Int.toNat_natCast]
   have v1:=z_f hq1 (.lst (z_g (rwE id (1+A1.ins))))
   have g1:=z_d (H:=J) (a:=q1) (o:=.lst (z_g (rwE id (1+A1.ins))))
   have sJ1:=sJ.trans v1
   generalize upd J q1 (.lst (z_g (rwE id (1+A1.ins))))=J1 at v1 g1 sJ1 ⊢
   refine ⟨_,rfl,wx,_,_,_,rfl,rfl,SqT.of (sJ1 _ _ hX.w),rfl,_,_,rfl,.inl ⟨_,SqL.of (sJ1 _ _ hbs.1),rfl⟩,(X.boxes.length:Int),congrArg (fun x:Nat=>[V.int (x:Int)]) hbl,by lia,by lia,y_r (lo:=0) (fun i ys J'=>J1=J'/\ys=z_g ((List.range i).map fun k=>2*(1+A1.ins+bo+k))) ⟨rfl,rfl⟩ ?_ ?_ ?_⟩
   ·rintro j ys J' hj ⟨_,rfl⟩
    rw [z_o,List.length_map,List.length_range]
    exact y_b (by lia)
   ·rintro j ys J' hj ⟨rfl,rfl⟩
    unfold tYes
    refine iteT ⟨_,rfl,_,_,rfl,rfl,_,rfl,_,_,rfl,rfl,_,rfl,_,_,rfl,rfl,_,_,rfl,rfl,.inl ⟨by decide,by decide⟩,rfl,?_⟩
    rw [List.range_succ,List.map_append,List.map_cons,List.map_nil,y_g]
    show _++[V.int (2*(1+(A1.ins:Int)+(bo:Int)+(0+(j:Int))))]=_
    rw [show 2*(1+(A1.ins:Int)+(bo:Int)+(0+(j:Int)))=((2*(1+A1.ins+bo+j):Nat):Int) by lia]
   rintro ys J' ⟨rfl,rfl⟩ q2 hq2
   rw [Int.toNat_natCast]
   have v2:=z_f hq2 (.lst (z_g ((List.range X.boxes.length).map fun k=>2*(1+A1.ins+bo+k))))
   have g2':=z_d (H:=J1) (a:=q2) (o:=.lst (z_g ((List.range X.boxes.length).map fun k=>2*(1+A1.ins+bo+k))))
   refine ⟨q1,q2,_,_,rfl,rfl,v2 _ _ g1,g2',small (by rw [z_o,z_o,y_t,List.length_map,List.length_range];lia),fun q3 hq3=>?_⟩
   rw [<-w_c]
   have v3:=v1.trans (v2.trans (z_f hq3 (.lst (z_g (rwE id (1+A1.ins)++(List.range X.boxes.length).map fun k=>2*(1+A1.ins+bo+k))))))
   have g3:=z_d (H:=upd J1 q2 (.lst (z_g ((List.range X.boxes.length).map fun k=>2*(1+A1.ins+bo+k))))) (a:=q3) (o:=.lst (z_g (rwE id (1+A1.ins)++(List.range X.boxes.length).map fun k=>2*(1+A1.ins+bo+k))))
   dsimp only [gName]
   generalize upd (upd J1 q2 (.lst (z_g ((List.range X.boxes.length).map fun k=>2*(1+A1.ins+bo+k))))) q3 (.lst (z_g (rwE id (1+A1.ins)++(List.range X.boxes.length).map fun k=>2*(1+A1.ins+bo+k))))=J3 at v3 g3 ⊢
   have sJ3:=sJ.trans v3
   have f43':=v3 _ _ f4J
   refine ⟨_,rfl,.inl ⟨rfl,_,SqL.of f43'⟩,_,rfl,_,rfl,wx,_,_,_,rfl,rfl,SqT.of (sJ3 _ _ hX.w),rfl,_,_,rfl,.inl ⟨_,SqL.of (sJ3 _ _ hgs.1),rfl⟩,(X.gates.length:Int),congrArg (fun x:Nat=>[V.int (x:Int)]) hgl,by lia,by lia,y_r (lo:=0) (fun i ys J'=>J3=J'/\ys=z_g ((List.range i).map fun k=>2*(1+A1.ins+(A1.boxes.length+B1.boxes.length)+go+k))) ⟨rfl,rfl⟩ ?_ ?_ ?_⟩
   ·rintro j ys J' hj ⟨_,rfl⟩
    rw [z_o,List.length_map,List.length_range]
    exact y_b (by lia)
   ·rintro j ys J' hj ⟨rfl,rfl⟩
    unfold tYes
    refine iteT ⟨_,rfl,_,_,rfl,rfl,_,rfl,_,_,rfl,rfl,_,rfl,_,_,rfl,rfl,_,rfl,_,_,rfl,rfl,_,_,rfl,rfl,.inl ⟨by decide,by decide⟩,rfl,?_⟩
    rw [List.range_succ,List.map_append,List.map_cons,List.map_nil,y_g]
    show _++[V.int (2*(1+(A1.ins:Int)+((A1.boxes.length+B1.boxes.length:Nat):Int)+(go:Int)+(0+(j:Int))))]=_
    rw [show 2*(1+(A1.ins:Int)+((A1.boxes.length+B1.boxes.length:Nat):Int)+(go:Int)+(0+(j:Int)))=((2*(1+A1.ins+(A1.boxes.length+B1.boxes.length)+go+j):Nat):Int) by lia]
   rintro ys J' ⟨rfl,rfl⟩ q4 hq4
   rw [Int.toNat_natCast]
   have v4:=z_f hq4 (.lst (z_g ((List.range X.gates.length).map fun k=>2*(1+A1.ins+(A1.boxes.length+B1.boxes.length)+go+k))))
   have g4:=z_d (H:=J3) (a:=q4) (o:=.lst (z_g ((List.range X.gates.length).map fun k=>2*(1+A1.ins+(A1.boxes.length+B1.boxes.length)+go+k))))
   refine ⟨q3,q4,_,_,rfl,rfl,v4 _ _ g3,g4,small (by rw [z_o,z_o,List.length_append,y_t,List.length_map,List.length_range,List.length_map,List.length_range];lia),fun q5 hq5=>?_⟩
   rw [<-w_c]
   have er:rwE id (1+A1.ins)++((List.range X.boxes.length).map fun k=>2*(1+A1.ins+bo+k))++((List.range X.gates.length).map fun k=>2*(1+A1.ins+(A1.boxes.length+B1.boxes.length)+go+k))=(if i=0 then rwE (k1 A1 B1) A1.knots else rwE (k2 A1 B1) B1.knots):=hRW.symm
   rw [er]
   generalize hRi:(if i=0 then rwE (k1 A1 B1) A1.knots else rwE (k2 A1 B1) B1.knots)=Ri at hRW er ⊢
   have v5:=v3.trans (v4.trans (z_f hq5 (.lst (z_g Ri))))
   have g5:=z_d (H:=upd J3 q4 (.lst (z_g ((List.range X.gates.length).map fun k=>2*(1+A1.ins+(A1.boxes.length+B1.boxes.length)+go+k))))) (a:=q5) (o:=.lst (z_g Ri))
   have f45:=v5 _ _ f4J
   have nq5:q5≠p4:=(z_i (v4 _ _ f43') hq5).symm
   generalize upd (upd J3 q4 (.lst (z_g ((List.range X.gates.length).map fun k=>2*(1+A1.ins+(A1.boxes.length+B1.boxes.length)+go+k))))) q5 (.lst (z_g Ri))=J5 at v5 g5 f45 ⊢
   refine ⟨p4,_,_,rfl,rfl,f45,y_b (by rw [List.length_map];lia),?_⟩
   have nt:∀ {a:Addr} {xs:List V},J5 a=some (.tup xs)->a≠p4:=fun e z=>by rw [z,f45] at e;cases e
   refine ⟨_,_,_,_,ls++[q5],rfl,x_c (sJ.trans v5) hp4 _,by rw [z_r npl.symm];exact v5 _ _ hpJ,by rw [z_r (nt (v5 _ _ ht1J))];exact v5 _ _ ht1J,by rw [z_r (nt (v5 _ _ ht2J))];exact v5 _ _ ht2J,by rw [z_d,List.map_append];rfl,by rw [List.length_append,hll];rfl,fun k a hk=>?_⟩
   by_cases c:k<ls.length
   ·rw [List.getElem?_append_left c] at hk
    obtain ⟨d1,d2⟩:=hls k a hk
    exact ⟨d1,by rw [z_r d1];exact v5 _ _ d2⟩
   ·have hkl:=(List.getElem?_eq_some_iff.mp hk).1
    rw [List.length_append] at hkl
    have hki:k=i:=by have:[q5].length=1:=rfl;lia
    rw [List.getElem?_append_right (by lia),show k-ls.length=0 by lia] at hk
    cases hk
    refine ⟨nq5,?_⟩
    rw [z_r nq5,hki,hRi]
    exact g5
  ·rintro σ J ⟨x5,x6,x7,x8,ls,rfl,sJ,hpJ,ht1J,ht2J,f4J,hll,hls⟩
   obtain ⟨l1,l2,rfl⟩:=two_ex (show ls.length=2 from hll)
   exact hD _ _ ⟨_,_,_,_,l1,l2,rfl,sJ,f4J,(hls 0 l1 rfl).2,(hls 1 l2 rfl).2⟩
 rintro σ J ⟨x5,x6,x7,x8,l1,l2,rfl,sJ,f4J,fl1,fl2⟩
 refine ⟨zl0,fun p9 hp9=>?_⟩
 have y1:=z_f hp9 (.lst [])
 have f9:=z_d (H:=J) (a:=p9) (o:=.lst [])
 dsimp only [gName]
 generalize upd J p9 (.lst [])=J1 at y1 f9 ⊢
 refine ⟨zl0,fun p10 hp10=>?_⟩
 have y2:=z_f hp10 (.lst [])
 have f10:=z_d (H:=J1) (a:=p10) (o:=.lst [])
 have f92:=y2 _ _ f9
 have y12:=y1.trans y2
 dsimp only [gName]
 generalize upd J1 p10 (.lst [])=J2 at y2 f10 f92 y12 ⊢
 refine w_l (fun σ J'=>∃ (x5 x6 x7 x8:Option V) (p9 p10:Addr) (rs:List Addr),σ=[some (.ref w),some (.ref w2),some (.int (A1.ins:Int)),some (.int ((A1.boxes.length+B1.boxes.length:Nat):Int)),some (.ref p4),x5,x6,x7,x8,some (.ref p9),some (.ref p10),none]/\Same J J'/\PrsR J' p9 rs (bes A1 B1).boxes/\J' p10=some (.lst ((bes A1 B1).outs.map V.int))) (fun D hD=>?_) ?_
 ·refine ⟨_,rfl,_,rfl,zl2,fun pz hpz=>?_⟩
  have y3:=z_f hpz (.lst [.ref w,.ref w2])
  have fz:=z_d (H:=J2) (a:=pz) (o:=.lst [.ref w,.ref w2])
  have y13:=y12.trans y3
  have f93:=y3 _ _ f92
  have f103:=y3 _ _ f10
  generalize upd J2 pz (.lst [.ref w,.ref w2])=J3 at y3 fz y13 f93 f103 ⊢
  refine ⟨_,rfl,pz,p4,rfl,⟨_,SqL.of fz⟩,⟨_,SqL.of (y13 _ _ f4J)⟩,for_zip (xs:=[.ref w,.ref w2]) (ys:=[.ref l1,.ref l2]) (fun i σ J'=>∃ (x5 x6 x7 x8:Option V) (p9 p10:Addr) (rs:List Addr),σ=[some (.ref w),some (.ref w2),some (.int (A1.ins:Int)),some (.int ((A1.boxes.length+B1.boxes.length:Nat):Int)),some (.ref p4),x5,x6,x7,x8,some (.ref p9),some (.ref p10),none]/\Same J3 J'/\PrsR J' p9 rs (bx ((two A1 B1).take i))/\J' p10=some (.lst ((ot ((two A1 B1).take i)).map V.int))) ⟨_,_,_,_,p9,p10,[],rfl,Same.refl J3,⟨f93,.nil⟩,f103⟩ ?_ rfl ?_ ?_⟩
  ·rintro i σ J' ⟨_,_,_,_,_,_,_,_,s',_⟩
   exact ⟨SqL.of (s' _ _ fz),SqL.of ((y13.trans s') _ _ f4J)⟩
  ·rintro i vx vy pp σ J' hx hy ⟨x5,x6,x7,x8,p9,p10,rs,rfl,s',h9,h10⟩ hpp
   have hi2:i<2:=(List.getElem?_eq_some_iff.mp hx).1
   obtain ⟨wx,bx',gx',ox',lx,X,F,kx,rfl,rfl,hX,okX,hXk,hlx,hF,h2i⟩:∃ (wx bx' gx' ox' lx:Addr) (X:Wk) (F:Int->Int) (kx:Nat->Nat),vx = .ref wx/\vy = .ref lx/\IsWkA H wx bx' gx' ox' X/\X.Ok/\X.knots<=100/\J lx=some (.lst (z_g (rwE kx X.knots)))/\(∀ e:Nat,F (e:Int)=((eM kx e:Nat):Int))/\(two A1 B1)[i]? = some (X,F):=by
    rcases (show i=0\/i=1 by lia) with rfl | rfl
    ·cases hx;cases hy
     exact ⟨w,b,g,o,l1,A1,F1 A1 B1,k1 A1 B1,rfl,rfl,hA,okA,kA,fl1,F1_nat A1 B1,rfl⟩
    ·cases hx;cases hy
     exact ⟨w2,b2,g2,o2,l2,B1,F2 A1 B1,k2 A1 B1,rfl,rfl,hB,okB,kB,fl2,F2_nat A1 B1,rfl⟩
   obtain ⟨bs,hbs⟩:=hX.b
   have hbl:(bs.map V.ref).length=X.boxes.length:=by rw [List.length_map,hbs.length]
   have ln:(rwE kx X.knots).length=X.knots:=y_t _ _
   have ob:=okX.boxes
   have oo:=okX.outs
   have z1:=z_f hpp (.tup [.ref wx,.ref lx])
   have s1':=s'.trans z1
   have h9':=h9.same z1
   have h10':=z1 _ _ h10
   refine ⟨pp,_,rfl,SqT.of z_d,rfl,_,_,rfl,_,_,rfl,rfl,?_⟩
   dsimp only [gName]
   generalize upd J' pp (.tup [.ref wx,.ref lx])=K1 at z1 s1' h9' h10' ⊢
   have sH1:=sJ.trans (y13.trans s1')
   have sJK:=y13.trans s1'
   have l9:=h9'.2.length
   refine ⟨_,rfl,_,rfl,wx,_,_,_,rfl,rfl,SqT.of (sH1 _ _ hX.w),rfl,bx',rfl,⟨_,SqL.of (sH1 _ _ hbs.1)⟩,x_w (xs:=bs.map V.ref) (fun j ys K'=>Same K1 K'/\∃ xs:List Addr,ys=xs.map V.ref/\Paired (fun r (p:Int×Int)=>K' r=some (.tup [.int p.1,.int p.2])) xs ((X.boxes.map fun q=>(q.1,F q.2)).take j)) ⟨Same.refl K1,[],rfl,.nil⟩ ?_ ?_ ?_ ?_⟩
   ·rintro j ys K' _ ⟨s2',_⟩
    exact SqL.of (s2' _ _ (sH1 _ _ hbs.1))
   ·rintro j ys K' hj ⟨_,xs,rfl,hp⟩
    have:=hp.length
    rw [List.length_take] at this
    rw [hbl] at hj
    rw [List.length_map]
    exact y_b (by lia)
   ·rintro j v ys K' hv ⟨s2',xs,rfl,hp⟩
    rw [List.getElem?_map] at hv
    obtain ⟨rb,hrb,rfl⟩:=Option.map_eq_some_iff.mp hv
    obtain ⟨pb,hpb,hbt⟩:=y_v hbs.2 hrb
    obtain ⟨c1,c2,c3⟩:=okX.box pb (List.mem_of_getElem? hpb)
    obtain ⟨ne,hne⟩:∃ n:Nat,pb.2=(n:Int):=⟨pb.2.toNat,by lia⟩
    have ebt:=s2' _ _ (sH1 _ _ hbt)
    rw [hne] at ebt
    unfold tYes
    refine iteT ⟨_,rfl,.inr (.inl ⟨rb,_,_,_,rfl,rfl,SqT.of ebt,rfl,_,rfl,_,rfl,.inr (.inl ⟨rb,_,_,_,rfl,rfl,SqT.of ebt,rfl,lx,_,ne,rfl,s2' _ _ (sJK _ _ hlx),by rw [ln];lia,zl2,fun t ht=>?_⟩)⟩)⟩
    rw [w_a (by lia)]
    have u1:=z_f ht (.tup [.int pb.1,.int ((eM kx ne:Nat):Int)])
    refine ⟨s2'.trans u1,xs++[t],by rw [List.map_append];rfl,?_⟩
    rw [y_u (x:=(pb.1,((eM kx ne:Nat):Int))) (by rw [List.getElem?_map,hpb];show some (pb.1,F pb.2)=_;rw [hne,hF])]
    refine x_g ?_ (z_w (fun _ _ e=>u1 _ _ e) hp)
    exact z_d
   rintro ys K2 ⟨s2',xs,rfl,hxs⟩ q1 hq1
   rw [List.length_map,hbs.length,List.take_of_length_le (by rw [List.length_map];exact Nat.le_refl _)] at hxs
   have z2:=z_f hq1 (.lst (xs.map V.ref))
   have e1:=z_d (H:=K2) (a:=q1) (o:=.lst (xs.map V.ref))
   have h9b:=(h9'.same s2').same z2
   have s2b:=s2'.trans z2
   have xl:=hxs.length
   rw [List.length_map] at xl
   have hxs2:=z_w (fun r p e=>z2 _ _ e) hxs
   generalize upd K2 q1 (.lst (xs.map V.ref))=K3 at z2 e1 h9b s2b hxs2 ⊢
   have eB:bx ((two A1 B1).take (i+1))=bx ((two A1 B1).take i)++X.boxes.map fun q=>(q.1,F q.2):=by
    rw [y_u h2i]
    unfold bx
    rw [List.flatMap_append]
    simp
   have eO:ot ((two A1 B1).take (i+1))=ot ((two A1 B1).take i)++X.outs.map F:=by
    rw [y_u h2i]
    unfold ot
    rw [List.flatMap_append]
    simp
   have lb:(bx ((two A1 B1).take i)).length<=1000:=by
    have hm:=x_p A1 B1
    have o1:=okA.boxes
    have o2':=okB.boxes
    rcases (show i=0\/i=1 by lia) with rfl | rfl
    ·exact Nat.zero_le _
    ·show (bx [(A1,F1 A1 B1)]).length<=1000
     unfold bx
     simp
     lia
   have lo:(ot ((two A1 B1).take i)).length<=1000:=by
    have o1:=okA.outs
    rcases (show i=0\/i=1 by lia) with rfl | rfl
    ·exact Nat.zero_le _
    ·show (ot [(A1,F1 A1 B1)]).length<=1000
     unfold ot
     simp
     lia
   refine ⟨p9,q1,_,_,rfl,rfl,h9b.1,e1,small (by rw [List.length_map,List.length_map,l9];lia),fun q2 hq2=>?_⟩
   have z3:=z_f hq2 (.lst (rs.map V.ref++xs.map V.ref))
   have P3:PrsR (upd K3 q2 (.lst (rs.map V.ref++xs.map V.ref))) q2 (rs++xs) (bx ((two A1 B1).take (i+1))):=by
    rw [eB]
    exact ⟨by rw [z_d,List.map_append],z_w (fun r p e=>z3 _ _ e) (pairedSn h9b.2 hxs2)⟩
   have s3b:=s2b.trans z3
   dsimp only [gName]
   generalize upd K3 q2 (.lst (rs.map V.ref++xs.map V.ref))=K4 at z3 P3 s3b ⊢
   have sH4:=sH1.trans s3b
   refine ⟨_,rfl,_,rfl,wx,_,_,_,rfl,rfl,SqT.of (sH4 _ _ hX.w),rfl,ox',rfl,⟨_,SqL.of (sH4 _ _ hX.o)⟩,x_w (xs:=X.outs.map V.int) (fun j ys K'=>K4=K'/\ys=((X.outs.map F).take j).map V.int) ⟨rfl,rfl⟩ ?_ ?_ ?_ ?_⟩
   ·rintro j ys K' _ ⟨rfl,_⟩
    exact SqL.of (sH4 _ _ hX.o)
   ·rintro j ys K' hj ⟨_,rfl⟩
    rw [List.length_map] at hj
    rw [List.length_map,List.length_take]
    exact y_b (by lia)
   ·rintro j v ys K' hv ⟨rfl,rfl⟩
    rw [List.getElem?_map] at hv
    obtain ⟨ov,hov,rfl⟩:=Option.map_eq_some_iff.mp hv
    obtain ⟨c2,c3⟩:=okX.out ov (List.mem_of_getElem? hov)
    obtain ⟨ne,rfl⟩:∃ n:Nat,ov=(n:Int):=⟨ov.toNat,by lia⟩
    unfold tYes
    refine iteT ⟨_,rfl,_,rfl,lx,_,ne,rfl,s3b _ _ (sJK _ _ hlx),by rw [ln];lia,rfl,?_⟩
    rw [w_a (by lia),y_u (x:=F (ne:Int)) (by rw [List.getElem?_map,hov];rfl),List.map_append,hF]
    rfl
   rintro ys K5 ⟨rfl,rfl⟩ q3 hq3
   rw [List.length_map,List.take_of_length_le (by rw [List.length_map];exact Nat.le_refl _)]
   have z4:=z_f hq3 (.lst ((X.outs.map F).map V.int))
   refine ⟨p10,q3,_,_,rfl,rfl,z4 _ _ (s3b _ _ h10'),z_d,small (by rw [List.length_map,List.length_map,List.length_map];lia),fun q4 hq4=>?_⟩
   have z5:=z4.trans (z_f hq4 (.lst ((ot ((two A1 B1).take i)).map V.int++(X.outs.map F).map V.int)))
   refine ⟨_,_,_,_,q2,q4,rs++xs,rfl,s1'.trans (s3b.trans z5),P3.same z5,?_⟩
   rw [z_d,eO,List.map_append]
  ·rintro σ J' ⟨x5,x6,x7,x8,p9,p10,rs,rfl,s',h9,h10⟩
   exact hD _ _ ⟨_,_,_,_,p9,p10,rs,rfl,y13.trans s',h9,h10⟩
 rintro σ J' ⟨x5,x6,x7,x8,p9,p10,rs,rfl,s',h9,h10⟩
 have eGA:=o_k okA.gate
 have eGB:=o_k okB.gate
 have bd:∀ {X:Wk},X.Ok->∀ x∈nG X.gates,x.1/2<X.knots/\x.2/2<X.knots:=fun {X} ok x hx=>by
  have h1:=X.knots_is
  have h2:=X.first_is
  obtain ⟨k,hk⟩:=List.getElem?_of_mem hx
  have hkl:=(List.getElem?_eq_some_iff.mp hk).1
  rw [v_l] at hkl
  have hgo:GateOk (1+(X.ins+X.boxes.length)) X.gates:=by
   have:=ok.gate
   rw [h2,Nat.add_assoc] at this
   exact this
  obtain ⟨c1,c2⟩:=o_r hgo k x hk
  lia
 have mp:∀ {X:Wk} {F:Int->Int} {kx:Nat->Nat},X.Ok->(∀ e:Nat,F (e:Int)=((eM kx e:Nat):Int))->gI ((nG X.gates).map fun x=>(eW (rwE kx X.knots) x.1,eW (rwE kx X.knots) x.2))=X.gates.map fun x=>(F x.1,F x.2):=fun {X F kx} ok hF=>by
  conv=>rhs;rw [<-o_k ok.gate]
  unfold gI
  rw [List.map_map,List.map_map]
  refine List.map_congr_left fun x hx=>?_
  obtain ⟨b1,b2⟩:=bd ok x hx
  show (((eW (rwE kx X.knots) x.1:Nat):Int),((eW (rwE kx X.knots) x.2:Nat):Int))=(F ((x.1:Nat):Int),F ((x.2:Nat):Int))
  rw [w_a b1,w_a b2,hF,hF]
 have lnA:(rwE (k1 A1 B1) A1.knots).length=A1.knots:=y_t _ _
 have lnB:(rwE (k2 A1 B1) B1.knots).length=B1.knots:=y_t _ _
 have sH:=sJ.trans s'
 have f4':=s' _ _ f4J
 refine ⟨_,rfl,p4,_,_,_,rfl,rfl,SqL.of f4',rfl,_,rfl,l1,w,b,g,o,_,A1,nG A1.gates,rfl,s' _ _ fl1,hA.same sH,eGA.symm,fun x hx=>by rw [lnA];exact bd okA x hx,by rw [v_l];lia,fun c1 rc1 M1 hc1 m1 hR1=>?_⟩
 have f41:=m1 _ _ f4'
 refine ⟨_,rfl,p4,_,_,_,rfl,rfl,SqL.of f41,rfl,_,rfl,l2,w2,b2,g2,o2,_,B1,nG B1.gates,rfl,m1 _ _ (s' _ _ fl2),(hB.same sH).same m1,eGB.symm,fun x hx=>by rw [lnB];exact bd okB x hx,by rw [v_l];lia,fun c2 rc2 M2 hc2 m2 hR2=>?_⟩
 have lc1:=hR1.lenS
 have lc2:=hR2.lenS
 rw [List.length_map,v_l] at lc1 lc2
 refine ⟨c1,c2,_,_,rfl,rfl,m2 _ _ hR1.1,hR2.1,small (by rw [List.length_map,List.length_map];lia),fun p11 hp11=>?_⟩
 have z1:=z_f hp11 (.lst (rc1.map V.ref++rc2.map V.ref))
 have PG:PrsR (upd M2 p11 (.lst (rc1.map V.ref++rc2.map V.ref))) p11 (rc1++rc2) (bes A1 B1).gates:=by
  have e:(bes A1 B1).gates=(A1.gates.map fun x=>(F1 A1 B1 x.1,F1 A1 B1 x.2))++B1.gates.map fun x=>(F2 A1 B1 x.1,F2 A1 B1 x.2):=by
   show gt (two A1 B1)=_
   unfold gt two
   simp
  rw [e,<-mp okA (F1_nat A1 B1),<-mp okB (F2_nat A1 B1)]
  exact ⟨by rw [z_d,List.map_append],z_w (fun r p x=>z1 _ _ x) (pairedSn (z_w (fun r p x=>m2 _ _ x) hR1.2) hR2.2)⟩
 have m3:=m1.trans (m2.trans z1)
 dsimp only [gName]
 generalize upd M2 p11 (.lst (rc1.map V.ref++rc2.map V.ref))=M3 at z1 PG m3 ⊢
 refine ⟨_,rfl,_,rfl,_,rfl,_,rfl,zl4,fun tj htj=>⟨_,rfl,zl2,fun tt htt=>?_⟩⟩
 have n1:=z_f htj (.tup [.int (A1.ins:Int),.ref p9,.ref p11,.ref p10])
 have n2:=z_f htt (.tup [.ref tj,.ref p4])
 have n12:=n1.trans n2
 have nn:=m3.trans n12
 exact q tt tj p9 p11 p10 p4 l1 l2 _ (sH.trans nn) z_d ⟨n2 _ _ z_d,⟨rs,h9.same nn⟩,⟨rc1++rc2,PG.same n12⟩,nn _ _ h10⟩ (nn _ _ f4') (nn _ _ (s' _ _ fl1)) (nn _ _ (s' _ _ fl2))
theorem m_w(T:Tx w K mg A):FnOk P w K mg base CX0 1 A.a_L_leaves A.d_L_leaves ["_law_labels", "_law_pair"] r_x:=by
 refine T.F_L_leaves.ok sc_L_leaves (fun vs H Q E h=>?_) (fun cdv A' outer s H vs Q E hr h=>?_)
 ·obtain ⟨l,t,Ls,L0,R,n,a,b,rfl,hl,ht,u,hLb,h1000,h0,ha,hb,hRa,hRb,q⟩:=h
  rfl
 obtain ⟨l,t,Ls,L0,R,n,a,b,rfl,hl,ht,u,hLb,h1000,h0,ha,hb,hRa,hRb,q⟩:=h
 refine ⟨_,(z_e (z_v (i:=2) sc_L_leaves.nd rfl (Or.inl rfl) (x_i z_b))
  (z_e (z_v (i:=3) sc_L_leaves.nd rfl (Or.inl rfl) (x_i (z_a (z_l ix_list0 (pv 0) z_c (fun _ _=>rfl)) (z_a (z_l ix_list0 (pv 0) z_c (fun _ _=>rfl)) z_b))))
  (z_e (x_q PassesOwn.never rfl (v_j (pv 1)) (z_t (i:=4) sc_L_leaves.nd rfl (Or.inl rfl))
    (z_h (x_j (z_z t_p (z_l ix_list0 (pv 0) (pv 4) (fun _ _=>rfl)) (pv 3) rfl) (z_e (y_l (w_u PySem.F.plainAttrs_list PySem.F.slot_list_append PySem.F.type_list_append x_a (pv 2) (z_a (pv 4) z_b)))
  (z_h (z_v (i:=3) sc_L_leaves.nd rfl (Or.inl rfl) (z_k v_m (pv 3) (x_i (z_a (z_l ix_list0 (pv 0) (pv 4) (fun _ _=>rfl)) (z_a (z_l ix_list0 (pv 0) (z_k v_e (pv 4) z_c) (fun _ _=>rfl)) z_b))))))) y_c)))
  (z_h (z_y (x_b q_f rfl T.tuple PyProof.Rows.boot_tuple (z_a (pv 2) z_b))))))),?_⟩
 have hLl:=hLb.1
 have z0:=u.z0 h0
 have z1:R 1=1:=by have:=u.cx (e:=0) h0;rw [z0] at this;exact this
 refine ⟨zl0,fun p2 hp2=>?_⟩
 have s1:=z_f hp2 (.lst [])
 have f2:=z_d (H:=H) (a:=p2) (o:=.lst [])
 dsimp only [gName]
 generalize upd H p2 (.lst [])=H1 at s1 f2 ⊢
 have hl1:=s1 _ _ hl
 refine ⟨_,rfl,l,_,_,_,rfl,rfl,SqL.of hl1,w_o (k:=0) (by lia),_,rfl,l,_,_,_,rfl,rfl,SqL.of hl1,w_o (k:=1) (by lia),zl2,fun p3 hp3=>?_⟩
 have t3:=z_f hp3 (.lst (z_g [Ls.getD 0 0,Ls.getD 1 0]))
 have f3:=z_d (H:=H1) (a:=p3) (o:=.lst (z_g [Ls.getD 0 0,Ls.getD 1 0]))
 have f23:=t3 _ _ f2
 have s3:=s1.trans t3
 have n23:p2≠p3:=z_i f2 hp3
 dsimp only [gName]
 show tSeq _ _ _ _ (upd H1 p3 (.lst (z_g [Ls.getD 0 0,Ls.getD 1 0])))
 generalize upd H1 p3 (.lst (z_g [Ls.getD 0 0,Ls.getD 1 0]))=H3 at t3 f3 f23 s3 ⊢
 have ht3:=s3 _ _ ht
 refine ⟨_,rfl,t,rfl,⟨_,SqT.of ht3⟩,h_g (xs:=[.int (a:Int),.int (b:Int)]) (fun i σ J=>∃ (ps:Addr) (x4:Option V) (fd sn:List Nat),σ=[some (.ref l),some (.ref t),some (.ref p2),some (.ref ps),x4]/\Same H J/\J p2=some (.lst (z_g fd))/\J ps=some (.lst (z_g sn))/\sn.length<=2+2*i/\ps≠p2/\fd=(if i=0 then [] else if i=1 then (if a/2=0 then [] else [a]) else lvs a b)/\∀ x,x<2*n->(Ls.getD x 0∈sn↔R x/2=0\/∃ y∈fd,y/2=R x/2)) ⟨p3,_,[],[Ls.getD 0 0,Ls.getD 1 0],rfl,s3,f23,f3,Nat.le_refl _,n23.symm,rfl,fun x hx=>?_⟩ ?_ ?_ ?_⟩
 ·simp only [List.mem_cons,List.not_mem_nil,or_false,false_and,exists_false]
  rw [hLb.2 _ _ hx (show 0<2*n by lia),hLb.2 _ _ hx (show 1<2*n by lia),z0,z1]
  lia
 ·rintro i σ J _ ⟨_,_,_,_,_,sJ,_⟩
  exact SqT.of (sJ _ _ ht)
 ·rintro i v σ J hv ⟨ps,x4,fd,sn,rfl,sJ,fJ,gJ,hsl,npp,hfd,hsn⟩
  have hi2:i<2:=(List.getElem?_eq_some_iff.mp hv).1
  have hlJ:=sJ _ _ hl
  obtain ⟨x,hx,hRx,rfl,hnew⟩:∃ x:Nat,x<2*n/\R x=x/\v = .int (x:Int)/\(fd++(if x/2=0\/∃ y∈fd,y/2=x/2 then [] else [x])=(if i+1=0 then [] else if i+1=1 then (if a/2=0 then [] else [a]) else lvs a b)):=by
   have hi01:i=0\/i=1:=by lia
   rcases hi01 with rfl | rfl
   ·cases hv
    refine ⟨a,ha,hRa,rfl,?_⟩
    subst hfd
    simp
   ·cases hv
    refine ⟨b,hb,hRb,rfl,?_⟩
    subst hfd
    unfold lvs
    by_cases c:a/2=0
    ·simp only [c]
     by_cases d:b/2=0<;>simp [d]
    ·simp [c,eq_comm]
  have hxc:=x_v x
  have x1:Builtin.bitXor (x:Int) 1=((x^^^1:Nat):Int):=v_c x 1
  have hin:=q_w (Ls.getD x 0) sn
  have hsx:=hsn x hx
  rw [hRx] at hsx
  refine ⟨_,rfl,_,rfl,l,_,_,_,rfl,rfl,SqL.of hlJ,w_o (by lia),_,rfl,ps,_,rfl,.inl (SqL.of gJ),rfl,r_a _,_,rfl,?_⟩
  by_cases hm:Ls.getD x 0∈sn
  ·refine x_d (by show (!inV _ _)=false;rw [hin,decide_eq_true hm];rfl) ?_
   rw [if_pos (hsx.mp hm),List.append_nil] at hnew
   exact ⟨ps,_,fd,sn,rfl,sJ,fJ,gJ,by lia,npp,hnew,hsn⟩
  ·refine v_i (by show (!inV _ _)=true;rw [hin,decide_eq_false hm];rfl) ?_
   rw [if_neg (fun h=>hm (hsx.mpr h))] at hnew
   have hfl:fd.length<=2:=by
    rw [hfd]
    split
    ·exact Nat.zero_le _
    ·split
     ·split<;>simp
     ·exact q_y _ _
   refine ⟨_,rfl,.inl ⟨rfl,_,SqL.of fJ⟩,_,rfl,p2,_,_,rfl,rfl,fJ,y_b (by rw [z_o];lia),?_⟩
   rw [<-y_g]
   have u1:=x_c sJ hp2 (.lst (z_g (fd++[x])))
   have f4:=z_d (H:=J) (a:=p2) (o:=.lst (z_g (fd++[x])))
   have g4:(upd J p2 (.lst (z_g (fd++[x])))) ps=some (.lst (z_g sn)):=by rw [z_r npp];exact gJ
   generalize upd J p2 (.lst (z_g (fd++[x])))=J4 at u1 f4 g4 ⊢
   have hl4:=u1 _ _ hl
   refine ⟨_,rfl,_,rfl,_,rfl,l,_,_,_,rfl,rfl,SqL.of hl4,w_o (by lia),_,rfl,_,rfl,_,_,rfl,rfl,l,_,_,_,rfl,rfl,SqL.of hl4,(by rw [x1];exact w_o (by lia)),zl2,fun p5 hp5=>?_⟩
   have t5:=z_f hp5 (.lst [.int ((Ls.getD x 0:Nat):Int),.int ((Ls.getD (x^^^1) 0:Nat):Int)])
   refine ⟨ps,p5,_,_,rfl,rfl,t5 _ _ g4,z_d,small (by rw [z_o];show sn.length+2<=_;lia),fun p6 hp6=>?_⟩
   have t6:=t5.trans (z_f hp6 (.lst (z_g sn++[.int ((Ls.getD x 0:Nat):Int),.int ((Ls.getD (x^^^1) 0:Nat):Int)])))
   refine ⟨p6,_,fd++[x],sn++[Ls.getD x 0,Ls.getD (x^^^1) 0],rfl,u1.trans t6,t6 _ _ f4,?_,by rw [List.length_append];show sn.length+2<=_;lia,(z_i (t5 _ _ f4) hp6).symm,hnew,fun y hy=>?_⟩
   ·rw [z_d]
    unfold z_g
    rw [List.map_append]
    rfl
   ·rw [List.mem_append,hsn y hy]
    simp only [List.mem_cons,List.not_mem_nil,or_false,List.mem_append]
    rw [hLb.2 _ _ hy hx,hLb.2 _ _ hy (show x^^^1<2*n by lia),u.cx (e:=x) (by lia),hRx,<-half_cx]
    constructor
    ·rintro ((h | ⟨z,h1,h2⟩) | h)
     ·exact .inl h
     ·exact .inr ⟨z,.inl h1,h2⟩
     ·exact .inr ⟨x,.inr rfl,h.symm⟩
    ·rintro (h | ⟨z,h1 | rfl,h2⟩)
     ·exact .inl (.inl h)
     ·exact .inl (.inr ⟨z,h1,h2⟩)
     ·exact .inr h2.symm
 rintro σ J ⟨ps,x4,fd,sn,rfl,sJ,fJ,gJ,hsl,npp,hfd,hsn⟩
 have hfd':fd=lvs a b:=hfd
 subst hfd'
 exact ⟨_,rfl,p2,_,rfl,.inl ⟨SqL.of fJ,fun pt hpt=>q pt _ (sJ.trans (z_f hpt _)) z_d⟩⟩
theorem m_x(T:Tx w K mg A)(G_L_joined:FnOk P w K mg base CX0 1 A.a_L_joined A.d_L_joined ["_law_labels", "_law_one", "_law_other"] s_g)(G_L_end:FnOk P w K mg base CX0 1 A.a_L_end A.d_L_end ["_law_ends", "_law_end_here"] u_e)(G_L_leaves:FnOk P w K mg base CX0 1 A.a_L_leaves A.d_L_leaves ["_law_labels", "_law_pair"] r_x):FnOk P w K mg base CX0 2 A.a_L_walked A.d_L_walked ["_law_one", "_law_rows", "_law_twin_here", "_law_net", "_law_goes", "_law_pairs"] r_y:=by
 refine T.F_L_walked.ok sc_L_walked (fun vs H Q E h=>?_) (fun cdv A' outer s H vs Q E hr h=>?_)
 ·obtain ⟨w,b,g,o,rw,l1,l2,tl,net,gn,gl,pl,rs,A1,f1,f2,tw,G,KB,NG,n,m,v,rfl,hW,ok,hrw,hl1,hl2,htl,hnet,hgn,hn,h1000,hk100,h0,hgl,hb,W,hpl,q⟩:=h
  rfl
 obtain ⟨w,b,g,o,rw,l1,l2,tl,net,gn,gl,pl,rs,A1,f1,f2,tw,G,KB,NG,n,m,v,rfl,hW,ok,hrw,hl1,hl2,htl,hnet,hgn,hn,h1000,hk100,h0,hgl,hb,W,hpl,q⟩:=h
 refine ⟨_,(z_e (z_v (i:=6) sc_L_walked.nd rfl (Or.inl rfl) (x_b (q_q rfl) rfl T.list PyProof.Rows.boot_list (z_a (x_b m_i rfl T.range PyProof.Rows.boot_range (z_a (z_k y_h z_c (z_k z_x (z_k z_x z_c (z_l ix_tup0 (pv 3) z_c (fun _ _=>rfl))) (z_m z_s rfl T.len PySem.boot_len (z_a (z_l ix_tup0 (pv 3) z_c (fun _ _=>rfl)) z_b)))) z_b)) z_b)))
  (z_e (x_q PassesOwn.never rfl (y_d (pv 5)) (y_x rfl (z_u (z_t (i:=7) sc_L_walked.nd rfl (Or.inl rfl)) (z_u (z_t (i:=8) sc_L_walked.nd rfl (Or.inl rfl)) y_o)))
    (z_h (z_v (i:=6) sc_L_walked.nd rfl (Or.inl rfl) (z_j G_L_joined (hr.mono (by first | decide | lia)) rfl T.M_L_joined T.F_L_joined.kp T.B_L_joined .nil pass0 (z_a (pv 6) (z_a (z_j G_L_end (hr.mono (by first | decide | lia)) rfl T.M_L_end T.F_L_end.kp T.B_L_end .nil pass0 (z_a (pv 4) (z_a (pv 7) z_b))) (z_a (z_j G_L_end (hr.mono (by first | decide | lia)) rfl T.M_L_end T.F_L_end.kp T.B_L_end .nil pass0 (z_a (pv 4) (z_a (pv 8) z_b))) z_b)))))))
  (z_e (z_v (i:=9) sc_L_walked.nd rfl (Or.inl rfl) (x_i z_b))
  (z_e (z_v (i:=10) sc_L_walked.nd rfl (Or.inl rfl) (z_k z_x (z_k z_x z_c (z_l ix_tup0 (pv 0) z_c (fun _ _=>rfl))) (z_m z_s rfl T.len PySem.boot_len (z_a (z_l ix_tup0 (pv 0) z_c (fun _ _=>rfl)) z_b))))
  (z_e (x_q PassesOwn.never rfl (y_j rfl T.range (z_a (z_m z_s rfl T.len PySem.boot_len (z_a (z_l ix_tup0 (pv 0) z_c (fun _ _=>rfl)) z_b)) z_b)) (z_t (i:=11) sc_L_walked.nd rfl (Or.inl rfl))
    (z_e (z_v (i:=12) sc_L_walked.nd rfl (Or.inl rfl) (z_j G_L_end (hr.mono (by first | decide | lia)) rfl T.M_L_end T.F_L_end.kp T.B_L_end .nil pass0 (z_a (pv 4) (z_a (z_l ix_list0 (z_l ix_list0 (pv 1) z_c (fun _ _=>rfl)) (z_k z_x (pv 10) (pv 11)) (fun _ _=>rfl)) z_b))))
  (z_e (z_v (i:=13) sc_L_walked.nd rfl (Or.inl rfl) (z_j G_L_end (hr.mono (by first | decide | lia)) rfl T.M_L_end T.F_L_end.kp T.B_L_end .nil pass0 (z_a (pv 4) (z_a (z_j G_L_end (hr.mono (by first | decide | lia)) rfl T.M_L_end T.F_L_end.kp T.B_L_end .nil pass0 (z_a (z_l ix_list0 (pv 1) z_c (fun _ _=>rfl)) (z_a (z_l ix_list0 (pv 2) (z_k z_x (pv 10) (pv 11)) (fun _ _=>rfl)) z_b))) z_b))))
  (z_e (q_m (z_l ix_list0 (z_l ix_tup0 (pv 0) z_c (fun _ _=>rfl)) (pv 11) (fun _ _=>rfl)) (y_x rfl (z_u (z_t (i:=7) sc_L_walked.nd rfl (Or.inl rfl)) (z_u (z_t (i:=8) sc_L_walked.nd rfl (Or.inl rfl)) y_o))))
  (z_e (z_v (i:=14) sc_L_walked.nd rfl (Or.inl rfl) (y_e (z_a (z_j G_L_end (hr.mono (by first | decide | lia)) rfl T.M_L_end T.F_L_end.kp T.B_L_end .nil pass0 (z_a (pv 4) (z_a (z_j G_L_end (hr.mono (by first | decide | lia)) rfl T.M_L_end T.F_L_end.kp T.B_L_end .nil pass0 (z_a (z_l ix_list0 (pv 1) z_c (fun _ _=>rfl)) (z_a (pv 7) z_b))) z_b))) (z_a (z_j G_L_end (hr.mono (by first | decide | lia)) rfl T.M_L_end T.F_L_end.kp T.B_L_end .nil pass0 (z_a (pv 4) (z_a (z_j G_L_end (hr.mono (by first | decide | lia)) rfl T.M_L_end T.F_L_end.kp T.B_L_end .nil pass0 (z_a (z_l ix_list0 (pv 1) z_c (fun _ _=>rfl)) (z_a (pv 8) z_b))) z_b))) z_b))))
  (z_e (y_l (w_u PySem.F.plainAttrs_list PySem.F.slot_list_append PySem.F.type_list_append x_a (pv 9) (z_a (y_e (z_a n_i (z_a (pv 12) (z_a (pv 13) (z_a (z_j G_L_leaves (hr.mono (by first | decide | lia)) rfl T.M_L_leaves T.F_L_leaves.kp T.B_L_leaves .nil pass0 (z_a (pv 6) (z_a (pv 14) z_b))) z_b))))) z_b)))
  (z_h (z_v (i:=6) sc_L_walked.nd rfl (Or.inl rfl) (z_j G_L_joined (hr.mono (by first | decide | lia)) rfl T.M_L_joined T.F_L_joined.kp T.B_L_joined .nil pass0 (z_a (pv 6) (z_a (pv 12) (z_a (pv 13) z_b))))))))))))
  (z_h (z_y (pv 9)))))))),?_⟩
 obtain ⟨bs,hB⟩:=hW.b
 obtain ⟨gr,hG⟩:=hW.g
 have a1:=A1.knots_is
 have a2:=A1.first_is
 have hbl:(bs.map V.ref).length=A1.boxes.length:=by rw [List.length_map,hB.length]
 have hgll:(gr.map V.ref).length=A1.gates.length:=by rw [List.length_map,hG.length]
 have r1:(rwE f1 A1.knots).length=A1.knots:=y_t _ _
 have r2:(rwE f2 KB).length=KB:=y_t _ _
 have r3:(rwE tw A1.knots).length=A1.knots:=y_t _ _
 have r4:(rwE G NG).length=NG:=y_t _ _
 have en:2*(1+m+((v.length:Nat):Int))=((2*n:Nat):Int):=by lia
 refine ⟨_,rfl,net,_,_,_,rfl,rfl,SqT.of hnet,rfl,_,_,rfl,rfl,_,rfl,net,_,_,_,rfl,rfl,SqT.of hnet,rfl,_,_,rfl,.inl ⟨_,SqL.of hgn,rfl⟩,_,_,rfl,rfl,_,_,rfl,rfl,.inl ⟨by decide,by decide⟩,((2*n:Nat):Int),congrArg (fun x=>[V.int x]) en,fun pa hpa=>?_⟩
 refine ⟨pa,_,rfl,z_d,by lia,by lia,fun p6 hp6=>?_⟩
 have eN:((List.range ((2*n:Nat):Int).toNat).map fun i=>V.int (i:Nat))=z_g (List.range (2*n)):=by
  rw [Int.toNat_natCast]
  rfl
 rw [eN]
 have s1:=(z_f hpa (.rng 0 ((2*n:Nat):Int))).trans (z_f hp6 (.lst (z_g (List.range (2*n)))))
 have e6:=z_d (H:=upd H pa (.rng 0 ((2*n:Nat):Int))) (a:=p6) (o:=.lst (z_g (List.range (2*n))))
 dsimp only [gName]
 generalize upd (upd H pa (.rng 0 ((2*n:Nat):Int))) p6 (.lst (z_g (List.range (2*n))))=H1 at s1 e6 ⊢
 have kl:(kpN A1 f1 fun k=>f2 (tw k)).length=A1.boxes.length:=by unfold kpN;rw [List.length_map,List.length_range']
 have rl:rs.length=A1.boxes.length:=by rw [hpl.lenS,kl]
 have hLl:∀ {Ls:List Nat} {R:Nat->Nat},LbU n Ls R->Ls.length=2*n:=fun h=>h.1.1
 have cxn:∀ x:Nat,x<2*n->x^^^1<2*n:=fun x hx=>by have:=x_v x;lia
 have ev:∀ (f:Nat->Nat) (x:Nat),eM f (2*x)=2*f x:=fun f x=>by unfold eM;rw [show 2*x/2=x by lia,show 2*x%2=0 by lia];rfl
 refine w_l (fun σ J=>∃ (pL:Addr) (x7 x8:Option V) (Ls:List Nat),σ=[some (.ref w),some (.ref rw),some (.ref tl),some (.ref net),some (.ref gl),some (.ref pl),some (.ref pL),x7,x8,none,none,none,none,none,none]/\Same H J/\J pL=some (.lst (z_g Ls))/\LbU n Ls (rE A1.ins (fun k=>G (f1 k)) (fun k=>G (f2 (tw k))) A1.first)) (fun D hD=>?_) ?_
 ·refine ⟨_,rfl,pl,rfl,⟨_,SqL.of (s1 _ _ hpl.1)⟩,t_k (xs:=rs.map V.ref) (fun i σ J=>∃ (pL:Addr) (x7 x8:Option V) (Ls:List Nat),σ=[some (.ref w),some (.ref rw),some (.ref tl),some (.ref net),some (.ref gl),some (.ref pl),some (.ref pL),x7,x8,none,none,none,none,none,none]/\Same H J/\J pL=some (.lst (z_g Ls))/\LbU n Ls (rE A1.ins (fun k=>G (f1 k)) (fun k=>G (f2 (tw k))) (A1.ins+1+i))) ⟨p6,_,_,_,rfl,s1,e6,by rw [Nat.add_zero,p_l];exact LbU.start n⟩ ?_ ?_ ?_⟩
  ·rintro i σ J _ ⟨_,_,_,_,_,sJ,_⟩
   exact SqL.of (sJ _ _ hpl.1)
  ·rintro i vv σ J hv ⟨pL,x7,x8,Ls,rfl,sJ,fL,hLb⟩
   have hi:i<A1.boxes.length:=by
    have:=(List.getElem?_eq_some_iff.mp hv).1
    rw [List.length_map] at this
    lia
   have hkp:(kpN A1 f1 fun k=>f2 (tw k))[i]? = some (2*f1 (1+A1.ins+i),2*f2 (tw (1+A1.ins+i))):=by
    unfold kpN
    rw [List.getElem?_map,List.getElem?_range' hi]
    simp
   obtain ⟨rr,hrr,hrt⟩:=hpl.getS hkp
   have hv':vv = .ref rr:=by
    rw [List.getElem?_map,hrr] at hv
    exact (Option.some.inj hv).symm
   subst hv'
   obtain ⟨b1,b2,b3⟩:=hb (1+A1.ins+i) (by lia)
   have hll:=hLl hLb
   obtain ⟨l1',l2',_⟩:=t_m W (m:=1+A1.ins+i) (by lia) (by lia)
   have hJ:=LbU.join W (m:=A1.ins+1+i) hLb (by lia) (by lia)
   rw [show A1.ins+1+i=1+A1.ins+i by lia] at hJ
   have c1:=cxn _ l1'
   have c2:=cxn _ l2'
   refine ⟨rr,_,rfl,SqT.of (sJ _ _ hrt),rfl,_,_,rfl,_,_,rfl,rfl,?_⟩
   refine ⟨_,rfl,_,rfl,_,rfl,gl,_,_,rfl,sJ _ _ hgl,by rw [r4];lia,_,rfl,_,rfl,gl,_,_,rfl,sJ _ _ hgl,by rw [r4];lia,?_⟩
   rw [w_a (by lia),w_a (by lia),ev,ev]
   refine ⟨pL,Ls,2*G (f1 (1+A1.ins+i)),2*G (f2 (tw (1+A1.ins+i))),rfl,fL,by lia,by rw [hll];exact l1',by rw [hll];exact l2',by rw [hll];exact c1,by rw [hll];exact c2,fun hc=>absurd hc hJ.1,fun hc w' J3 hw' s3 fw=>?_⟩
   exact ⟨w',_,_,_,rfl,sJ.trans s3,fw,by rw [show A1.ins+1+(i+1)=1+A1.ins+i+1 by lia];exact hJ.2⟩
  ·rintro σ J ⟨pL,x7,x8,Ls,rfl,sJ,fL,hLb⟩
   rw [List.length_map,rl,show A1.ins+1+A1.boxes.length=A1.first by lia] at hLb
   exact hD _ _ ⟨pL,x7,x8,Ls,rfl,sJ,fL,hLb⟩
 rintro σ J ⟨pL,x7,x8,Ls,rfl,sJ,fL,hLb⟩
 refine ⟨zl0,fun p9 hp9=>?_⟩
 have t1:=z_f hp9 (.lst [])
 have f9:=z_d (H:=J) (a:=p9) (o:=.lst [])
 have sJ1:=sJ.trans t1
 have fL1:=t1 _ _ fL
 have n9:pL≠p9:=z_i fL hp9
 have hp9H:=sJ.free hp9
 dsimp only [gName]
 generalize upd J p9 (.lst [])=J1 at t1 f9 sJ1 fL1 ⊢
 refine ⟨_,rfl,w,_,_,_,rfl,rfl,SqT.of (sJ1 _ _ hW.w),rfl,_,_,rfl,rfl,_,rfl,w,_,_,_,rfl,rfl,SqT.of (sJ1 _ _ hW.w),rfl,_,_,rfl,.inl ⟨_,SqL.of (sJ1 _ _ hB.1),rfl⟩,_,_,rfl,rfl,?_⟩
 dsimp only [gName]
 rw [hbl,show 1+(A1.ins:Int)+((A1.boxes.length:Nat):Int)=(A1.first:Int) by lia]
 refine w_l (fun σ J'=>∃ (rs':List Addr),σ[9]? = some (some (.ref p9))/\Same H J'/\J' p9=some (.lst (rs'.map V.ref))/\Paired (fun r s=>StpR J' r s) rs' (stN' A1 (fun k=>G (f1 k)) fun k=>G (f2 (tw k)))) (fun D hD=>?_) ?_
 ·refine ⟨_,rfl,w,_,_,_,rfl,rfl,SqT.of (sJ1 _ _ hW.w),rfl,_,_,rfl,.inl ⟨_,SqL.of (sJ1 _ _ hG.1),rfl⟩,(A1.gates.length:Int),congrArg (fun x:Nat=>[V.int (x:Int)]) hgll,by lia,by lia,v_k (lo:=0) (fun k σ J'=>∃ (pL:Addr) (x7 x8 x11 x12 x13 x14:Option V) (Ls:List Nat) (rs':List Addr),σ=[some (.ref w),some (.ref rw),some (.ref tl),some (.ref net),some (.ref gl),some (.ref pl),some (.ref pL),x7,x8,some (.ref p9),some (.int (A1.first:Int)),x11,x12,x13,x14]/\Same H J'/\J' pL=some (.lst (z_g Ls))/\pL≠p9/\LbU n Ls (rE A1.ins (fun k=>G (f1 k)) (fun k=>G (f2 (tw k))) (A1.first+k))/\J' p9=some (.lst (rs'.map V.ref))/\rs'.length=k/\Paired (fun r s=>StpR J' r s) rs' ((stN' A1 (fun k=>G (f1 k)) fun k=>G (f2 (tw k))).take k)) ⟨pL,_,_,_,_,_,_,Ls,[],rfl,sJ1,fL1,n9,hLb,f9,rfl,.nil⟩ ?_ ?_⟩
  ·rintro k σ J' hk ⟨pL,x7,x8,x11,x12,x13,x14,Ls,rs',rfl,s',fL',n9',hLb',f9',hrl',hpr'⟩
   rw [Int.toNat_natCast] at hk
   obtain ⟨na,nb,eg,ega,la,lb⟩:=m_p ok (k:=A1.first+k) (by lia) (by lia)
   rw [Nat.add_sub_cancel_left] at eg
   obtain ⟨b1,b2,b3⟩:=hb (A1.first+k) (by lia)
   obtain ⟨ba1,_,_⟩:=hb (na/2) (by lia)
   obtain ⟨bb1,_,_⟩:=hb (nb/2) (by lia)
   have hll:=hLl hLb'
   obtain ⟨l1',l2',_⟩:=t_m W (m:=A1.first+k) (by lia) (by lia)
   have hJ:=LbU.join W hLb' (by lia) (by lia)
   have c1:=cxn _ l1'
   have c2:=cxn _ l2'
   obtain ⟨rk,hrk,hrt⟩:=pairedGet' hG.2 eg
   have hat1:atI (z_g (rwE f1 A1.knots)) ((A1.first:Int)+(0+(k:Int)))=some (.int ((2*f1 (A1.first+k):Nat):Int)):=by
    rw [show (A1.first:Int)+(0+(k:Int))=((A1.first+k:Nat):Int) by lia,w_o (by rw [r1];lia),List.getD_eq_getElem?_getD,r_r (by lia)]
    rfl
   have hat2:atI (z_g (rwE tw A1.knots)) ((A1.first:Int)+(0+(k:Int)))=some (.int ((2*tw (A1.first+k):Nat):Int)):=by
    rw [show (A1.first:Int)+(0+(k:Int))=((A1.first+k:Nat):Int) by lia,w_o (by rw [r3];lia),List.getD_eq_getElem?_getD,r_r (by lia)]
    rfl
   refine ⟨_,rfl,_,rfl,rw,_,_,_,rfl,rfl,SqL.of (s' _ _ hrw),rfl,_,rfl,_,rfl,_,_,rfl,rfl,l1,_,_,_,rfl,rfl,SqL.of (s' _ _ hl1),hat1,gl,_,_,rfl,s' _ _ hgl,by rw [r4];lia,?_⟩
   rw [w_a (by lia),ev]
   refine ⟨_,rfl,_,rfl,rw,_,_,_,rfl,rfl,SqL.of (s' _ _ hrw),rfl,_,rfl,_,rfl,_,rfl,_,_,rfl,rfl,tl,_,_,_,rfl,rfl,SqL.of (s' _ _ htl),hat2,l2,_,_,rfl,s' _ _ hl2,by rw [r2];lia,?_⟩
   rw [w_a (by lia),ev]
   refine ⟨gl,_,_,rfl,s' _ _ hgl,by rw [r4];lia,?_⟩
   rw [w_a (by lia),ev]
   refine ⟨_,rfl,w,_,_,_,rfl,rfl,SqT.of (s' _ _ hW.w),rfl,_,rfl,g,_,_,_,rfl,rfl,SqL.of (s' _ _ hG.1),(by rw [Int.zero_add];exact at_ref hrk),rk,_,rfl,SqT.of (s' _ _ hrt),rfl,_,_,rfl,_,_,rfl,rfl,?_⟩
   have w1:eW (rwE f1 A1.knots) na=eM f1 na:=w_a (by lia)
   have w2:eW (rwE f1 A1.knots) nb=eM f1 nb:=w_a (by lia)
   refine ⟨_,rfl,_,rfl,rw,_,_,_,rfl,rfl,SqL.of (s' _ _ hrw),rfl,_,rfl,l1,_,na,rfl,s' _ _ hl1,by rw [r1];lia,gl,_,_,rfl,s' _ _ hgl,by rw [r4,w1,o_i];exact ba1,_,rfl,_,rfl,rw,_,_,_,rfl,rfl,SqL.of (s' _ _ hrw),rfl,_,rfl,l1,_,nb,rfl,s' _ _ hl1,by rw [r1];lia,gl,_,_,rfl,s' _ _ hgl,by rw [r4,w2,o_i];exact bb1,zl2,fun te hte=>?_⟩
   rw [w1,w2,w_a (by rw [o_i];exact ba1),w_a (by rw [o_i];exact bb1),t_h,t_h]
   have u1:=z_f hte (.tup [.int ((eM (fun x=>G (f1 x)) na:Nat):Int),.int ((eM (fun x=>G (f1 x)) nb:Nat):Int)])
   have ft:=z_d (H:=J') (a:=te) (o:=.tup [.int ((eM (fun x=>G (f1 x)) na:Nat):Int),.int ((eM (fun x=>G (f1 x)) nb:Nat):Int)])
   dsimp only [gName]
   generalize upd J' te (.tup [.int ((eM (fun x=>G (f1 x)) na:Nat):Int),.int ((eM (fun x=>G (f1 x)) nb:Nat):Int)])=K1 at u1 ft ⊢
   obtain ⟨hLb1,L0,uu⟩:=id hLb'
   have pn:∀ x,x<A1.knots->G (f1 x)<n:=fun x hx=>by
    by_cases c:x<=A1.ins
    ·have:=W.sh x c
     have h:=W.tn x hx
     have e:G (f1 x)=G (f2 (tw x)):=this
     have h':G (f2 (tw x))<n:=h
     lia
    ·exact Nat.lt_trans (W.lt x (by lia) hx) (W.tn x hx)
   have lA:eM (fun x=>G (f1 x)) na<2*n:=by have:=pn (na/2) (by lia);show 2*G (f1 (na/2))+na%2<_;lia
   have lB:eM (fun x=>G (f1 x)) nb<2*n:=by have:=pn (nb/2) (by lia);show 2*G (f1 (nb/2))+nb%2<_;lia
   have f91:=u1 _ _ f9'
   refine ⟨_,rfl,.inl ⟨rfl,_,SqL.of f91⟩,_,rfl,_,rfl,_,rfl,_,rfl,pL,te,Ls,L0,_,n,_,_,rfl,u1 _ _ fL',ft,uu,hLb1,h1000,h0,lA,lB,rE_p W (by lia) (by lia),rE_p W (by lia) (by lia),fun lt K2 s2 elt=>⟨zl4,fun st hst=>?_⟩⟩
   have u3:=z_f hst (.tup [.str "stands",.int ((2*G (f1 (A1.first+k)):Nat):Int),.int ((2*G (f2 (tw (A1.first+k))):Nat):Int),.ref lt])
   have est:=z_d (H:=K2) (a:=st) (o:=.tup [.str "stands",.int ((2*G (f1 (A1.first+k)):Nat):Int),.int ((2*G (f2 (tw (A1.first+k))):Nat):Int),.ref lt])
   have u13:=u1.trans (s2.trans u3)
   have elt3:=u3 _ _ elt
   generalize upd K2 st (.tup [.str "stands",.int ((2*G (f1 (A1.first+k)):Nat):Int),.int ((2*G (f2 (tw (A1.first+k))):Nat):Int),.ref lt])=K3 at u3 est u13 elt3 ⊢
   have f93:=u13 _ _ f9'
   refine ⟨p9,_,_,rfl,rfl,f93,y_b (by rw [List.length_map];lia),?_⟩
   have nt:∀ {a:Addr} {xs:List V},K3 a=some (.tup xs)->a≠p9:=fun e z=>by rw [z,f93] at e;cases e
   have s4:=x_c (s'.trans u13) hp9H (.lst (rs'.map V.ref++[.ref st]))
   have fL4:(upd K3 p9 (.lst (rs'.map V.ref++[.ref st]))) pL=some (.lst (z_g Ls)):=by rw [z_r n9'];exact u13 _ _ fL'
   have f94:=z_d (H:=K3) (a:=p9) (o:=.lst (rs'.map V.ref++[.ref st]))
   have P4:Paired (fun r s=>StpR (upd K3 p9 (.lst (rs'.map V.ref++[.ref st]))) r s) (rs'++[st]) ((stN' A1 (fun k=>G (f1 k)) fun k=>G (f2 (tw k))).take (k+1)):=by
    rw [y_u (x:=(2*G (f1 (A1.first+k)),2*G (f2 (tw (A1.first+k))),lvs (eM (fun x=>G (f1 x)) na) (eM (fun x=>G (f1 x)) nb))) (by
     unfold stN'
     rw [List.getElem?_map,List.getElem?_range' hk]
     show some (2*G (f1 (A1.first+1*k)),2*G (f2 (tw (A1.first+1*k))),lfN A1 (fun k=>G (f1 k)) (A1.first+1*k))=_
     rw [Nat.one_mul]
     unfold lfN
     rw [ega])]
    have hS:StpR (upd K3 p9 (.lst (rs'.map V.ref++[.ref st]))) st (2*G (f1 (A1.first+k)),2*G (f2 (tw (A1.first+k))),lvs (eM (fun x=>G (f1 x)) na) (eM (fun x=>G (f1 x)) nb)):=⟨lt,by rw [z_r (nt est)];exact est,by rw [z_r (nt elt3)];exact elt3⟩
    refine x_g (R:=fun r s=>StpR (upd K3 p9 (.lst (rs'.map V.ref++[.ref st]))) r s) hS (z_w (fun r x e=>?_) hpr')
    ·obtain ⟨lt',e1,e2⟩:=e
     exact ⟨lt',by rw [z_r (nt (u13 _ _ e1))];exact u13 _ _ e1,by rw [z_r (nt (u13 _ _ e2))];exact u13 _ _ e2⟩
   generalize upd K3 p9 (.lst (rs'.map V.ref++[.ref st]))=K4 at s4 fL4 f94 P4 ⊢
   refine ⟨_,rfl,_,rfl,_,rfl,pL,Ls,2*G (f1 (A1.first+k)),2*G (f2 (tw (A1.first+k))),rfl,fL4,by lia,by rw [hll];exact l1',by rw [hll];exact l2',by rw [hll];exact c1,by rw [hll];exact c2,fun hc=>absurd hc hJ.1,fun hc w' K5 hw' s5 fw=>?_⟩
   exact ⟨w',_,_,_,_,_,_,_,rs'++[st],rfl,s4.trans s5,fw,(z_i f94 hw').symm,hJ.2,by rw [s5 _ _ f94,List.map_append];rfl,by rw [List.length_append,hrl'];rfl,z_w (fun r x e=>let ⟨lt',e1,e2⟩:=e;⟨lt',s5 _ _ e1,s5 _ _ e2⟩) P4⟩
  ·rintro σ J' ⟨pL,x7,x8,x11,x12,x13,x14,Ls,rs',rfl,s',fL',n9',hLb',f9',hrl',hpr'⟩
   rw [Int.toNat_natCast] at hpr'
   rw [List.take_of_length_le (by unfold stN';rw [List.length_map,List.length_range'];exact Nat.le_refl _)] at hpr'
   exact hD _ _ ⟨rs',rfl,s',f9',hpr'⟩
 rintro σ J' ⟨rs',h9,s',f9',hpr'⟩
 exact ⟨_,h9,q p9 rs' J' hp9H s' f9' hpr'⟩
theorem i_b(T:Tx w K mg A)(G_L_joint:FnOk P w K mg base CX0 3 A.a_L_joint A.d_L_joint ["_law_one", "_law_other"] s_d)(G_L_nets:FnOk P w K mg base CX0 3 A.a_L_nets A.d_L_nets ["_law_work_here"] n_v)(G_L_walked:FnOk P w K mg base CX0 2 A.a_L_walked A.d_L_walked ["_law_one", "_law_rows", "_law_twin_here", "_law_net", "_law_goes", "_law_pairs"] r_y)(G_L_end:FnOk P w K mg base CX0 1 A.a_L_end A.d_L_end ["_law_ends", "_law_end_here"] u_e):FnOk P w K mg base CX0 4 A.a_L_paper A.d_L_paper ["_law_one", "_law_other", "_law_twin_here"] s_h:=by
 refine T.F_L_paper.ok sc_L_paper (fun vs H Q E h=>?_) (fun cdv A' outer s H vs Q E hr h=>?_)
 ·obtain ⟨w,b,g,o,w',b',g',o',tl,A1,B1,tw,rfl,hA,hB,okA,okB,TT,kA,kB,hJ,htl,q⟩:=h
  rfl
 obtain ⟨w,b,g,o,w',b',g',o',tl,A1,B1,tw,rfl,hA,hB,okA,okB,TT,kA,kB,hJ,htl,q⟩:=h
 refine ⟨_,(z_e (q_m (z_j G_L_joint (hr.mono (by first | decide | lia)) rfl T.M_L_joint T.F_L_joint.kp T.B_L_joint .nil pass0 (z_a (pv 0) (z_a (pv 1) z_b))) (y_x rfl (z_u (z_t (i:=3) sc_L_paper.nd rfl (Or.inl rfl)) (z_u (z_t (i:=4) sc_L_paper.nd rfl (Or.inl rfl)) y_o))))
  (z_e (z_v (i:=5) sc_L_paper.nd rfl (Or.inl rfl) (z_j G_L_nets (hr.mono (by first | decide | lia)) rfl T.M_L_nets T.F_L_nets.kp T.B_L_nets .nil pass0 (z_a (pv 3) z_b)))
  (z_e (z_v (i:=6) sc_L_paper.nd rfl (Or.inl rfl) (x_i z_b))
  (z_e (x_q PassesOwn.never rfl (g_o rfl T.range (z_a (z_k z_x z_c (z_l ix_tup0 (pv 0) z_c (fun _ _=>rfl))) (z_a (z_k z_x (z_k z_x z_c (z_l ix_tup0 (pv 0) z_c (fun _ _=>rfl))) (z_m z_s rfl T.len PySem.boot_len (z_a (z_l ix_tup0 (pv 0) z_c (fun _ _=>rfl)) z_b))) z_b))) (z_t (i:=7) sc_L_paper.nd rfl (Or.inl rfl))
    (z_h (y_l (w_u PySem.F.plainAttrs_list PySem.F.slot_list_append PySem.F.type_list_append x_a (pv 6) (z_a (y_e (z_a (z_l ix_list0 (z_l ix_list0 (pv 4) z_c (fun _ _=>rfl)) (pv 7) (fun _ _=>rfl)) (z_a (z_j G_L_end (hr.mono (by first | decide | lia)) rfl T.M_L_end T.F_L_end.kp T.B_L_end .nil pass0 (z_a (z_l ix_list0 (pv 4) z_c (fun _ _=>rfl)) (z_a (z_l ix_list0 (pv 2) (pv 7) (fun _ _=>rfl)) z_b))) z_b))) z_b)))))
  (z_e (z_v (i:=8) sc_L_paper.nd rfl (Or.inl rfl) (z_j G_L_walked (hr.mono (by first | decide | lia)) rfl T.M_L_walked T.F_L_walked.kp T.B_L_walked .nil pass0 (z_a (pv 0) (z_a (pv 4) (z_a (pv 2) (z_a (z_l ix_tup0 (z_l ix_list0 (pv 5) z_c (fun _ _=>rfl)) z_c (fun _ _=>rfl)) (z_a (z_l ix_tup0 (z_l ix_list0 (pv 5) z_c (fun _ _=>rfl)) z_c (fun _ _=>rfl)) (z_a (pv 6) z_b))))))))
  (z_h (z_y (y_e (z_a (pv 6) (z_a (x_i z_b) (z_a (pv 8) (z_a (z_j G_L_walked (hr.mono (by first | decide | lia)) rfl T.M_L_walked T.F_L_walked.kp T.B_L_walked .nil pass0 (z_a (pv 0) (z_a (pv 4) (z_a (pv 2) (z_a (z_l ix_tup0 (z_l ix_list0 (pv 5) z_c (fun _ _=>rfl)) z_c (fun _ _=>rfl)) (z_a (z_l ix_tup0 (z_l ix_list0 (pv 5) z_c (fun _ _=>rfl)) z_c (fun _ _=>rfl)) (z_a (pv 6) z_b))))))) z_b)))))))))))),?_⟩
 have a1:=A1.knots_is
 have a2:=A1.first_is
 have b1:=B1.knots_is
 have oiA:=okA.ins
 have t1:=TT.ins
 have t2:=TT.bl
 have hkn:=u_i A1 B1
 have hnB:=nB_is A1 B1
 obtain ⟨bs,hBx⟩:=hA.b
 have hbl:(bs.map V.ref).length=A1.boxes.length:=by rw [List.length_map,hBx.length]
 have r1:(rwE (k1 A1 B1) A1.knots).length=A1.knots:=y_t _ _
 have r2:(rwE (k2 A1 B1) B1.knots).length=B1.knots:=y_t _ _
 have r3:(rwE tw A1.knots).length=A1.knots:=y_t _ _
 have ev:∀ (f:Nat->Nat) (x:Nat),eM f (2*x)=2*f x:=fun f x=>by unfold eM;rw [show 2*x/2=x by lia,show 2*x%2=0 by lia];rfl
 refine ⟨_,rfl,_,rfl,w,b,g,o,w',b',g',o',A1,B1,rfl,hA,hB,okA,okB,TT.ins.symm,kA,kB,fun t j bj gj oj l l1 l2 H1 s1 ht hj hl hl1 hl2=>?_⟩
 refine ⟨t,_,rfl,SqT.of ht,rfl,_,_,rfl,_,_,rfl,rfl,?_⟩
 refine ⟨_,rfl,j,bj,gj,oj,_,rfl,hj,hJ,by lia,fun p t0 t1 t2 n1 n2 g1 g2 x1 x2 y1 y2 v1 v2 m1 m2 H2 s2 ep et1 et2 en1 eg1 em1 en2 eg2 em2 er1 er2=>?_⟩
 refine ⟨zl0,fun kp hkp=>?_⟩
 have u3:=z_f hkp (.lst [])
 have f3:=z_d (H:=H2) (a:=kp) (o:=.lst [])
 have s03:=s1.trans (s2.trans u3)
 have s13:=s2.trans u3
 have hkpH:=(s1.trans s2).free hkp
 have hkp1:=s2.free hkp
 dsimp only [gName]
 generalize upd H2 kp (.lst [])=H3 at u3 f3 s03 s13 ⊢
 refine w_l (fun σ J=>∃ (rs:List Addr) (x7:Option V),σ=[some (.ref w),some (.ref w'),some (.ref tl),some (.ref j),some (.ref l),some (.ref p),some (.ref kp),x7,none]/\Same H J/\Same H1 J/\Same H2 J/\PrsR J kp rs (gI (kpN A1 (k1 A1 B1) fun k=>k2 A1 B1 (tw k)))) (fun D hD=>?_) ?_
 ·refine ⟨_,rfl,w,_,_,_,rfl,rfl,SqT.of (s03 _ _ hA.w),rfl,_,_,rfl,rfl,_,rfl,w,_,_,_,rfl,rfl,SqT.of (s03 _ _ hA.w),rfl,_,_,rfl,rfl,_,rfl,w,_,_,_,rfl,rfl,SqT.of (s03 _ _ hA.w),rfl,_,_,rfl,.inl ⟨_,SqL.of (s03 _ _ hBx.1),rfl⟩,_,_,rfl,rfl,_,_,rfl,⟨by lia,by lia,by rw [hbl];lia,by rw [hbl];lia⟩,v_k (lo:=1+(A1.ins:Int)) (fun i σ J=>∃ (rs:List Addr) (x7:Option V),σ=[some (.ref w),some (.ref w'),some (.ref tl),some (.ref j),some (.ref l),some (.ref p),some (.ref kp),x7,none]/\Same H J/\Same H1 J/\Same H2 J/\PrsR J kp rs (gI ((kpN A1 (k1 A1 B1) fun k=>k2 A1 B1 (tw k)).take i))) ⟨[],_,rfl,s03,s13,u3,f3,.nil⟩ ?_ ?_⟩
  ·rintro i σ J hi ⟨rs,x7,rfl,sJ,sJ1,sJ2,hP⟩
   rw [hbl] at hi
   have hi':i<A1.boxes.length:=by lia
   obtain ⟨c1,c2,c3⟩:=TT.lt (x:=1+A1.ins+i) (by lia)
   have ei:1+(A1.ins:Int)+(i:Int)=((1+A1.ins+i:Nat):Int):=by lia
   have hat1:atI (z_g (rwE (k1 A1 B1) A1.knots)) (1+(A1.ins:Int)+(i:Int))=some (.int ((2*k1 A1 B1 (1+A1.ins+i):Nat):Int)):=by
    rw [ei,w_o (by rw [r1];lia),List.getD_eq_getElem?_getD,r_r (by lia)]
    rfl
   have hat2:atI (z_g (rwE tw A1.knots)) (1+(A1.ins:Int)+(i:Int))=some (.int ((2*tw (1+A1.ins+i):Nat):Int)):=by
    rw [ei,w_o (by rw [r3];lia),List.getD_eq_getElem?_getD,r_r (by lia)]
    rfl
   have hrsl:=hP.lenS
   rw [List.length_take] at hrsl
   refine ⟨_,rfl,.inl ⟨rfl,_,SqL.of hP.1⟩,_,rfl,l,_,_,_,rfl,rfl,SqL.of (sJ1 _ _ hl),rfl,_,rfl,l1,_,_,_,rfl,rfl,SqL.of (sJ1 _ _ hl1),hat1,_,rfl,l,_,_,_,rfl,rfl,SqL.of (sJ1 _ _ hl),rfl,_,rfl,_,rfl,tl,_,_,_,rfl,rfl,SqL.of (sJ _ _ htl),hat2,l2,_,_,rfl,sJ1 _ _ hl2,by rw [r2];lia,zl2,fun t2 ht2=>?_⟩
   rw [w_a (by lia),ev]
   have v1:=z_f ht2 (.tup [.int ((2*k1 A1 B1 (1+A1.ins+i):Nat):Int),.int ((2*k2 A1 B1 (tw (1+A1.ins+i)):Nat):Int)])
   refine ⟨kp,_,_,rfl,rfl,v1 _ _ hP.1,y_b (by rw [List.length_map];lia),?_⟩
   refine ⟨rs++[t2],_,rfl,x_c (sJ.trans v1) hkpH _,x_c (sJ1.trans v1) hkp1 _,x_c (sJ2.trans v1) hkp _,?_⟩
   rw [y_u (x:=(2*k1 A1 B1 (1+A1.ins+i),2*k2 A1 B1 (tw (1+A1.ins+i)))) (by
    unfold kpN
    rw [List.getElem?_map,List.getElem?_range' hi']
    simp)]
   exact hP.pushS v1 z_d
  ·rintro σ J ⟨rs,x7,rfl,sJ,sJ1,sJ2,hP⟩
   rw [List.take_of_length_le (by unfold kpN;rw [List.length_map,List.length_range',hbl];lia)] at hP
   exact hD _ _ ⟨rs,x7,rfl,sJ,sJ1,sJ2,hP⟩
 rintro σ J ⟨rs,x7,rfl,sJ,sJ1,sJ2,hP⟩
 have hbx:=x_p A1 B1
 have hgt:=w_t A1 B1
 have hin:(bes A1 B1).ins=A1.ins:=rfl
 have hn:1+(2*(bes A1 B1).ins+(bes A1 B1).boxes.length)+2*(bes A1 B1).gates.length=1+(2*A1.ins+(A1.boxes.length+B1.boxes.length))+2*(A1.gates.length+B1.gates.length):=by rw [hbx,hgt,hin]
 have bnd:∀ x,x<A1.knots->k1 A1 B1 x<(bes A1 B1).knots/\tw x<B1.knots/\k2 A1 B1 (tw x)<(bes A1 B1).knots:=fun x hx=>by rw [hkn];exact TT.lt hx
 refine ⟨_,rfl,_,rfl,_,rfl,_,rfl,p,_,_,_,rfl,rfl,SqL.of (sJ2 _ _ ep),rfl,t1,_,_,_,rfl,rfl,SqT.of (sJ2 _ _ et1),rfl,_,rfl,p,_,_,_,rfl,rfl,SqL.of (sJ2 _ _ ep),rfl,t1,_,_,_,rfl,rfl,SqT.of (sJ2 _ _ et1),rfl,_,rfl,w,b,g,o,l,l1,l2,tl,n1,g1,x1,kp,rs,A1,k1 A1 B1,k2 A1 B1,tw,kn (bes A1 B1),B1.knots,(bes A1 B1).knots,_,m1,v1,rfl,hA.same sJ,okA,sJ1 _ _ hl,sJ1 _ _ hl1,sJ1 _ _ hl2,sJ _ _ htl,sJ2 _ _ en1,sJ2 _ _ eg1,(by rw [em1,hn]),by lia,kA,by lia,sJ2 _ _ er1,bnd,TT.next,hP,fun a3 rs3 H5 ha3 s5 e5 P5=>?_⟩
 have z5:=sJ.trans s5
 have z15:=sJ1.trans s5
 have z25:=sJ2.trans s5
 refine ⟨_,rfl,zl0,fun a2 ha2=>?_⟩
 have u6:=z_f ha2 (.lst [])
 have f6:=z_d (H:=H5) (a:=a2) (o:=.lst [])
 generalize upd H5 a2 (.lst [])=H6 at u6 f6 ⊢
 have z6:=z5.trans u6
 have z16:=z15.trans u6
 have z26:=z25.trans u6
 refine ⟨_,rfl,_,rfl,_,rfl,_,rfl,_,rfl,p,_,_,_,rfl,rfl,SqL.of (z26 _ _ ep),rfl,t2,_,_,_,rfl,rfl,SqT.of (z26 _ _ et2),rfl,_,rfl,p,_,_,_,rfl,rfl,SqL.of (z26 _ _ ep),rfl,t2,_,_,_,rfl,rfl,SqT.of (z26 _ _ et2),rfl,_,rfl,w,b,g,o,l,l1,l2,tl,n2,g2,x2,kp,rs,A1,k1 A1 B1,k2 A1 B1,tw,id,B1.knots,(bes A1 B1).knots,nB A1 B1,m2,v2,rfl,hA.same z6,okA,z16 _ _ hl,z16 _ _ hl1,z16 _ _ hl2,z6 _ _ htl,z26 _ _ en2,z26 _ _ eg2,(by rw [em2,hkn]),by lia,kA,by lia,z26 _ _ er2,bnd,TT.now,hP.same (s5.trans u6),fun a4 rs4 H7 ha4 s7 e7 P7=>⟨zl4,fun pt hpt=>?_⟩⟩
 have u8:=z_f hpt (.tup [.ref kp,.ref a2,.ref a3,.ref a4])
 have z58:=u6.trans (s7.trans u8)
 refine q pt kp a2 a3 a4 rs rs3 rs4 _ (z5.trans z58) ⟨z_d,hP.same (s5.trans z58),(s7.trans u8) _ _ f6,z58 _ _ e5,z_w (fun r x h=>h.same z58) P5,u8 _ _ e7,z_w (fun r x h=>h.same u8) P7⟩
theorem ok_law(T:Tx w K mg A)(G_L_work:FnOk P w K mg base CX0 2 A.a_L_work A.d_L_work ["_law_row_here", "_law_sizes"] (r_z K))(G_L_twin:FnOk P w K mg base CX0 2 A.a_L_twin A.d_L_twin ["_law_work_here", "_law_row_here"] q_n)(G_L_paper:FnOk P w K mg base CX0 4 A.a_L_paper A.d_L_paper ["_law_one", "_law_other", "_law_twin_here"] s_h)(G_L_joint:FnOk P w K mg base CX0 3 A.a_L_joint A.d_L_joint ["_law_one", "_law_other"] s_d)(G_L_row:FnOk P w K mg base CX0 1 A.a_L_row A.d_L_row ["_law_script", "_law_at", "_law_many"] (n_w K))(G_look_two:FnOk P w K mg base CX0 9 A.a_look_two A.d_look_two ["one", "other", "paper"] (q_b A.c_Classes A.tp_bits_of_both z_q z_n))(G_look_paper:FnOk P w K mg base CX0 8 A.a_look_paper A.d_look_paper ["work", "goals", "paper"] (p_s A.c_Classes A.tp_bits_of_both z_q z_n)):FnOk P w K mg base CX0 10 A.a_law A.d_law ["_law_script"] (f_i K A.tp_bits_of_both z_q z_n A.tp_sets_of_both y_y y_z):=by
 refine T.F_law.ok sc_law (fun vs H Q E h=>?_) (fun cdv A' outer s H vs Q E hr h=>?_)
 ·obtain ⟨a,ns,rfl,hS,h63,htp,_,q⟩:=h
  rfl
 obtain ⟨a,ns,rfl,hS,h63,htp,_,q⟩:=h
 have hu64:=hr.units
 refine ⟨_,(z_e (x_q PassesOwn.never rfl (g_p rfl T.range (z_a z_c (z_a (z_m (o_d rfl) rfl T.max PyProof.Rows.boot_max (z_a z_c (z_a (z_m (o_e rfl) rfl T.min PyProof.Rows.boot_min (z_a (z_k v_n (z_m u_x rfl T.len PySem.boot_len (z_a (pv 0) z_b)) z_c) (z_a z_c z_b))) z_b))) (z_a z_c z_b)))) (z_t (i:=1) sc_law.nd rfl (Or.inl rfl))
    (z_e (z_v (i:=2) sc_law.nd rfl (Or.inr rfl) (z_j G_L_work (hr.mono (by first | decide | lia)) rfl T.M_L_work T.F_L_work.kp T.B_L_work .nil pass0 (z_a (z_j G_L_row (hr.mono (by first | decide | lia)) rfl T.M_L_row T.F_L_row.kp T.B_L_row .nil pass0 (z_a (pv 0) (z_a (z_k z_x (pv 1) z_c) (z_a z_c z_b)))) (z_a (z_j G_L_row (hr.mono (by first | decide | lia)) rfl T.M_L_row T.F_L_row.kp T.B_L_row .nil pass0 (z_a (pv 0) (z_a (pv 1) (z_a z_c z_b)))) z_b))))
  (z_e (q_m (z_j G_L_twin (hr.mono (by first | decide | lia)) rfl T.M_L_twin T.F_L_twin.kp T.B_L_twin .nil pass0 (z_a (pv 2) (z_a (z_j G_L_row (hr.mono (by first | decide | lia)) rfl T.M_L_row T.F_L_row.kp T.B_L_row .nil pass0 (z_a (pv 0) (z_a (z_k z_x (pv 1) z_c) (z_a z_c z_b)))) z_b))) (k_j rfl (z_u (z_t (i:=3) sc_law.nd rfl (Or.inl rfl)) (z_u (z_t (i:=4) sc_law.nd rfl (Or.inl rfl)) y_o))))
  (z_e (z_v (i:=5) sc_law.nd rfl (Or.inl rfl) (z_j G_L_paper (hr.mono (by first | decide | lia)) rfl T.M_L_paper T.F_L_paper.kp T.B_L_paper .nil pass0 (z_a (pv 2) (z_a (pv 3) (z_a (pv 4) z_b)))))
  (z_e (z_v (i:=6) sc_law.nd rfl (Or.inl rfl) (x_b w_p rfl T.tuple PyProof.Rows.boot_tuple (z_a (y_s [] (fun _ _ h=>h) rfl (g_q (pv 5)) (fun _ _ _ _=>y_a) (fun _ _ _ _=>(x_b (q_p (K:=K) rfl) rfl T.list PyProof.Rows.boot_list (z_a (pv 0) z_b))) rfl (show ∀ j∈([]:List Nat),j<13 by decide) (show (["_law_part"]:List Str).Nodup by decide +kernel)) z_b)))
  (z_e (x_j (PW.pt (r_p (z_z p_i (z_j G_look_two (hr.mono (by first | decide | lia)) rfl T.M_look_two T.F_look_two.kp T.B_look_two .nil pass0 (z_a (pv 2) (z_a (pv 3) (z_a (pv 5) z_b)))) u_l (nomark _)) (s_f (z_z (g_k hu64) (pv 5) (pv 6) (nomark _))))) (z_h (z_y s_m)) y_c)
  (z_e (q_m (z_j G_L_joint (hr.mono (by first | decide | lia)) rfl T.M_L_joint T.F_L_joint.kp T.B_L_joint .nil pass0 (z_a (pv 2) (z_a (pv 3) z_b))) (k_j rfl (z_u (z_t (i:=7) sc_law.nd rfl (Or.inr rfl)) (z_u (z_t (i:=8) sc_law.nd rfl (Or.inl rfl)) y_o))))
  (z_e (u_m [7,2] sc_law.nd (i:=9) rfl (Or.inl rfl) (fun _ _ h=>h) rfl (y_j rfl T.range (z_a (z_m u_x rfl T.len PySem.boot_len (z_a (z_l t_e (pv 2) z_c (fun _ _=>rfl)) z_b)) z_b)) (fun _ _ _ _=>y_a) (fun _ _ _ _=>(y_e (z_a (z_l (t_l (K:=K) rfl) (z_l (q_x (K:=K) rfl) (pv 1) z_c (fun _ _=>rfl)) (pv 0) (fun _ _=>rfl)) (z_a (z_l (t_l (K:=K) rfl) (z_l (q_x (K:=K) rfl) (pv 1) z_c (fun _ _=>rfl)) (z_k z_x (z_m (i_v (K:=K) rfl) rfl T.len PySem.boot_len (z_a (z_l (q_x (K:=K) rfl) (pv 2) z_c (fun _ _=>rfl)) z_b)) (pv 0)) (fun _ _=>rfl)) z_b)))) rfl (show ∀ j∈([7,2]:List Nat),j<13 by decide) (show (["_law_j", "_law_joint_here", "_law_one"]:List Str).Nodup by decide +kernel) (by with_unfolding_all rfl))
  (z_e (z_v (i:=10) sc_law.nd rfl (Or.inl rfl) (x_b u_j rfl T.list PyProof.Rows.boot_list (z_a (pv 9) z_b)))
  (z_e (z_v (i:=11) sc_law.nd rfl (Or.inl rfl) (x_b w_p rfl T.tuple PyProof.Rows.boot_tuple (z_a (y_s [] (fun _ _ h=>h) rfl (g_q (pv 5)) (fun _ _ _ _=>y_a) (fun _ _ _ _=>(x_b (q_g (K:=K) rfl) rfl T.tuple PyProof.Rows.boot_tuple (z_a (pv 0) z_b))) rfl (show ∀ j∈([]:List Nat),j<13 by decide) (show (["_law_part"]:List Str).Nodup by decide +kernel)) z_b)))
  (z_e (x_j (PW.pt (r_p (z_z p_i (z_j G_look_paper (hr.mono (by first | decide | lia)) rfl T.M_look_paper T.F_look_paper.kp T.B_look_paper .nil pass0 (z_a (pv 7) (z_a (pv 10) (z_a (pv 11) z_b)))) u_l (nomark _)) (s_f (z_z (g_k hu64) (pv 10) (pv 9) (nomark _))))) (z_h (z_y s_m)) y_c)
  (z_e (z_v (i:=12) sc_law.nd rfl (Or.inl rfl) (y_e (z_a (z_l t_e (pv 2) z_c (fun _ _=>rfl)) (z_a (x_i z_b) (z_a (x_i z_b) (z_a (pe_comp1 [2] (fun _ _ h=>h) rfl (g_n (z_l t_e (pv 2) z_c (fun _ _=>rfl))) (fun _ _ _ _=>(z_z l_e (pv 0) (z_k y_h z_c (z_k z_x z_c (z_l (q_x (K:=K) rfl) (pv 1) z_c (fun _ _=>rfl)))) (nomark _))) (fun _ _ _ _=>(pv 0)) rfl (show ∀ j∈([2]:List Nat),j<13 by decide) (show (["_law_end_here", "_law_one"]:List Str).Nodup by decide +kernel)) z_b))))))
  (z_e (x_j (z_z p_i (z_j G_look_two (hr.mono (by first | decide | lia)) rfl T.M_look_two T.F_look_two.kp T.B_look_two .nil pass0 (z_a (pv 12) (z_a (pv 12) (z_a (y_e (z_a (x_i z_b) (z_a (y_e z_b) (z_a (x_i z_b) (z_a (y_e z_b) z_b))))) z_b)))) u_l (nomark _)) (z_h (z_y s_m)) y_c)
  (z_h (x_j (z_z (g_k hu64) (pv 3) (z_l t_e (z_j G_L_twin (hr.mono (by first | decide | lia)) rfl T.M_L_twin T.F_L_twin.kp T.B_L_twin .nil pass0 (z_a (pv 2) (z_a (z_j G_L_row (hr.mono (by first | decide | lia)) rfl T.M_L_row T.F_L_row.kp T.B_L_row .nil pass0 (z_a (pv 0) (z_a (z_k z_x (pv 1) z_c) (z_a z_c z_b)))) z_b))) z_c (fun _ _=>rfl)) (nomark _)) (z_h (z_y s_m)) y_c)))))))))))))))
  (z_h (z_y s_m))),?_⟩
 have hl:(ns.map V.int).length=ns.length:=List.length_map _
 have hmx:∀ M:Int,M=(if (if 6<((ns.map V.int).length:Int)-1 then 6 else ((ns.map V.int).length:Int)-1) > 2 then (if 6<((ns.map V.int).length:Int)-1 then 6 else ((ns.map V.int).length:Int)-1) else 2)->2<=M/\M<=6:=fun M hM=>by
  rw [hM,hl]
  split<;>split<;>lia
 refine ⟨_,rfl,_,_,rfl,.inl ⟨_,hS,rfl⟩,_,_,rfl,rfl,_,_,rfl,_,_,rfl,_,_,_,rfl,⟨by decide,by decide,?_⟩,j_n (lo:=0) (c:=2) (fun i σ H'=>∃ x1 x2 x3 x4 x5 x6 x7 x8 x9 x10 x11 x12,σ=[some (.ref a),x1,x2,x3,x4,x5,x6,x7,x8,x9,x10,x11,x12]/\Same H H') ⟨_,_,_,_,_,_,_,_,_,_,_,_,rfl,Same.refl _⟩ ?_ ?_⟩
 ·generalize hM:(if (if 6<((ns.map V.int).length:Int)-1 then 6 else ((ns.map V.int).length:Int)-1) > 2 then (if 6<((ns.map V.int).length:Int)-1 then 6 else ((ns.map V.int).length:Int)-1) else 2)=M
  obtain ⟨m0,m1⟩:=hmx M hM.symm
  unfold Builtin.Range.small Builtin.Range.rangeFitsLong Builtin.Range.rangeSize
  have h2:(M-0-1)/2<=100:=by lia
  have h3:0<=(M-0-1)/2:=by lia
  simp only [Bool.and_eq_true,Bool.or_eq_true,decide_eq_true_eq,beq_iff_eq,show (2:Int) > 0 by decide,if_true,show (0:Int)<M by lia]
  lia
 ·rintro i σ H2 hi ⟨x1,x2,x3,x4,x5,x6,x7,x8,x9,x10,x11,x12,rfl,s2⟩
  have hi100:i<=100:=by
   generalize hM:(if (if 6<((ns.map V.int).length:Int)-1 then 6 else ((ns.map V.int).length:Int)-1) > 2 then (if 6<((ns.map V.int).length:Int)-1 then 6 else ((ns.map V.int).length:Int)-1) else 2)=M at hi
   obtain ⟨m0,m1⟩:=hmx M hM.symm
   unfold Builtin.Range.rangeSize at hi
   rw [if_pos (by decide),if_pos (by lia)] at hi
   lia
  refine ⟨_,rfl,_,rfl,_,_,rfl,rfl,a,ns,_,_,rfl,s2.seq hS,h63,by lia,by decide,by decide,fun r rs H3 hr s3 hr3 hrl hrd _=>?_⟩
  refine ⟨_,rfl,_,rfl,a,ns,_,_,rfl,(s2.trans s3).seq hS,h63,by lia,by decide,by decide,fun z zs H4 hz s4 hz4 hzl hzd _=>?_⟩
  refine ⟨r,z,rs,zs,rfl,SqL.of (s4 _ _ hr3),SqL.of hz4,by lia,hrd,by lia,fun x hx=>(hzd x hx).1,fun w b g o A1 H5 _ _ _ _ s5 hA okA g12 o8 b8=>?_⟩
  have s05:=s2.trans (s3.trans (s4.trans s5))
  clear hr3 hz4 s3 s4 s5
  refine ⟨_,rfl,_,rfl,_,rfl,_,_,rfl,rfl,a,ns,_,_,rfl,s05.seq hS,h63,by lia,by decide,by decide,fun r6 rw H6 hr6 s6 hr63 hrl6 hrd6 hre6=>?_⟩
  refine ⟨w,b,g,o,r6,A1,rw,rfl,hA.same s6,okA,g12,hr63,by lia,hrd6,fun t w' b' g' o' tl tw H7 s7 ht hB okB g24 TT htl=>?_⟩
  have hA7:=hA.same (s6.trans s7)
  have s07:=s05.trans (s6.trans s7)
  refine ⟨t,_,rfl,SqT.of ht,rfl,_,_,rfl,_,_,rfl,rfl,?_⟩
  dsimp only [gName]
  have hB1e:∃ B1,B1=twW A1 rw:=⟨_,rfl⟩
  obtain ⟨B1,hB1⟩:=hB1e
  rw [<-hB1] at hB okB g24 TT
  have a1:=A1.knots_is
  have b1:=B1.knots_is
  have oiA:=okA.ins
  have tt1:=TT.ins
  have tt2:=TT.bl
  have tt3:=TT.ol
  have hJ:(bes A1 B1).Ok:=i_t okA okB tt1.symm (by lia) (by lia) (by lia)
  have hkn:=u_i A1 B1
  have hnB:=nB_is A1 B1
  refine ⟨_,rfl,_,rfl,_,rfl,w,b,g,o,w',b',g',o',tl,A1,B1,tw,rfl,hA7,hB,okA,okB,TT,by lia,by lia,hJ,htl,fun p a1' a2' a3' a4' rs1 rs3 rs4 H8 s8 hP=>?_⟩
  have hA8:=hA7.same s8
  have hB8:=hB.same s8
  have s08:=s07.trans s8
  clear hA hA7 hB htl s6 s7 s8 s05 s07 ht hr63
  refine ⟨_,rfl,p,rfl,⟨_,SqT.of hP.p⟩,o_g (as:=[a1',a2',a3',a4']) true hP.p hP.four (by show 4<=100;decide) (fun r xs J hJr N hN=>⟨_,rfl,r,xs,rfl,.inl (SqL.of hJr),hN⟩) fun bs J sJ pr pl hpl=>?_⟩
  obtain ⟨c1,c2,c3,c4,rfl,e1,e2,e3,e4⟩:=h_h pr
  refine ⟨pl,_,rfl,.inl ⟨SqL.of z_d,fun pk hpk=>?_⟩⟩
  have u9:=(z_f hpl (.lst ([c1,c2,c3,c4].map V.ref))).trans (z_f hpk (.tup ([c1,c2,c3,c4].map V.ref)))
  have fk:=z_d (H:=upd J pl (.lst ([c1,c2,c3,c4].map V.ref))) (a:=pk) (o:=.tup ([c1,c2,c3,c4].map V.ref))
  dsimp only [gName]
  generalize upd (upd J pl (.lst ([c1,c2,c3,c4].map V.ref))) pk (.tup ([c1,c2,c3,c4].map V.ref))=H9 at u9 fk ⊢
  have s89:=sJ.trans u9
  have hP9:=hP.same s89
  have e1:=u9 _ _ e1
  have e2:=u9 _ _ e2
  have e3:=u9 _ _ e3
  have e4:=u9 _ _ e4
  have hA9:=hA8.same s89
  have hB9:=hB8.same s89
  have s09:=s08.trans s89
  clear hA8 hB8 s08 hP sJ pr u9 s89
  have pok:=paper_ok TT okA hJ
  have pga:=gls_is TT okA
  have pap9:=hP9.as true hP9.p hP9.k.1 hP9.z hP9.l3 hP9.l4
  refine ⟨_,rfl,_,rfl,_,rfl,w,b,g,o,w',b',g',o',p,A1,B1,gls A1 B1 tw,_,_,_,rfl,hA9,hB9,okA,okB,tt1.symm,tt3.symm,hJ,by lia,pap9,pga,pok,s09 _ _ htp,fun H10 s10=>?_⟩
  refine ⟨rfl,_,rfl,x_d (by rw [decide_eq_true rfl];rfl) ?_⟩
  have hP10:=hP9.same s10
  refine ⟨_,rfl,_,rfl,rEqD.eq _ (hP10.rd hP10.p hP10.k.1 hP10.z hP10.l3 hP10.l4) (hP10.rd (s10 _ _ fk) (s10 _ _ e1) (s10 _ _ e2) (s10 _ _ e3) (s10 _ _ e4)) (dPap_cmp _ _ _) ⟨_,rfl,iteF ?_⟩⟩
  have hA10:=hA9.same s10
  have hB10:=hB9.same s10
  have s010:=s09.trans s10
  clear hA9 hB9 hP9 pap9 s09 s10 e1 e2 e3 e4 fk
  refine ⟨_,rfl,_,rfl,w,b,g,o,w',b',g',o',A1,B1,rfl,hA10,hB10,okA,okB,tt1.symm,by lia,by lia,fun t2 j bj gj oj l l1 l2 H11 s11 ht2 hj _ _ _=>?_⟩
  refine ⟨t2,_,rfl,SqT.of ht2,rfl,_,_,rfl,_,_,rfl,rfl,?_⟩
  dsimp only [gName]
  have hP11:=hP10.same s11
  have hA11:=hA10.same s11
  have hB11:=hB10.same s11
  have s011:=s010.trans s11
  clear hA10 hB10 hP10 s010 s11 ht2
  have ol:(A1.outs.map V.int).length=A1.outs.length:=List.length_map _
  refine ⟨_,rfl,w,_,_,_,rfl,rfl,SqT.of hA11.w,rfl,_,_,rfl,.inl ⟨_,SqL.of hA11.o,rfl⟩,(A1.outs.length:Int),congrArg (fun x:Nat=>[V.int (x:Int)]) ol,by lia,by lia,y_r (lo:=0) (fun i ys J=>Same H11 J/\∃ rs:List Addr,ys=rs.map V.ref/\Paired (fun r (q:Int×Int)=>J r=some (.tup [.int q.1,.int q.2])) rs (gI ((gls A1 B1 tw).take i))) ⟨Same.refl _,[],rfl,.nil⟩ ?_ ?_ ?_⟩
  ·rintro k ys J hk ⟨_,rs,rfl,hp⟩
   have:=hp.length
   rw [o_j,List.length_take] at this
   rw [List.length_map]
   exact y_b (by lia)
  ·rintro k ys J hk ⟨sJ,rs,rfl,hp⟩
   rw [Int.toNat_natCast] at hk
   have hg:(gls A1 B1 tw)[k]? = some ((gls A1 B1 tw)[k]'(by rw [m_q];exact hk)):=List.getElem?_eq_getElem _
   generalize (gls A1 B1 tw)[k]'(by rw [m_q];exact hk)=qq at hg
   obtain ⟨f1,f2⟩:=bes_outA TT okA hg
   have hjJ:=hj.same sJ
   have hAJ:=hA11.same sJ
   unfold tYes
   refine iteT ⟨_,rfl,j,_,_,_,rfl,rfl,SqT.of hjJ.w,rfl,_,rfl,oj,_,_,_,rfl,rfl,SqL.of hjJ.o,(by rw [Int.zero_add];exact f1),_,rfl,j,_,_,_,rfl,rfl,SqT.of hjJ.w,rfl,_,rfl,w,_,_,_,rfl,rfl,SqT.of hAJ.w,rfl,_,_,rfl,.inl ⟨_,SqL.of hAJ.o,rfl⟩,_,rfl,_,_,rfl,rfl,oj,_,_,_,rfl,rfl,SqL.of hjJ.o,(by rw [ol,Int.zero_add];exact f2),zl2,fun t ht=>?_⟩
   have u1:=z_f ht (.tup [.int ((qq.1:Nat):Int),.int ((qq.2:Nat):Int)])
   refine ⟨sJ.trans u1,rs++[t],by rw [List.map_append];rfl,?_⟩
   rw [y_u hg]
   unfold gI
   rw [List.map_append]
   exact x_g (R:=fun r (q:Int×Int)=>(upd J t (.tup [.int ((qq.1:Nat):Int),.int ((qq.2:Nat):Int)])) r=some (.tup [.int q.1,.int q.2])) z_d (z_w (fun _ _ z=>u1 _ _ z) hp)
  rintro ys J ⟨sJ,rsg,rfl,hpg⟩ pg hpg0
  rw [Int.toNat_natCast,List.take_of_length_le (by rw [m_q];exact Nat.le_refl _)] at hpg
  have G0:=PrsR.mk hpg hpg0
  have u12:=sJ.trans (z_f hpg0 (.lst (rsg.map V.ref)))
  dsimp only [gName]
  generalize upd J pg (.lst (rsg.map V.ref))=H12 at G0 u12 ⊢
  refine ⟨_,rfl,pg,_,rfl,.inl (SqL.of G0.1),fun ph hph=>?_⟩
  have t13:=z_f hph (.lst (rsg.map V.ref))
  have fh:=z_d (H:=H12) (a:=ph) (o:=.lst (rsg.map V.ref))
  dsimp only [gName]
  generalize upd H12 ph (.lst (rsg.map V.ref))=H13 at t13 fh ⊢
  have G1:=G0.same t13
  have u13:=u12.trans t13
  have hP13:=hP11.same u13
  have hA13:=hA11.same u13
  have hB13:=hB11.same u13
  have hj13:=hj.same u13
  have s013:=s011.trans u13
  clear hP11 hA11 hB11 hj s011 u13 u12 t13 G0 sJ hpg
  refine ⟨_,rfl,p,rfl,⟨_,SqT.of hP13.p⟩,o_g (as:=[a1',a2',a3',a4']) false hP13.p hP13.four (by show 4<=100;decide) (fun r xs J hJr N hN=>⟨_,rfl,r,xs,rfl,.inl ⟨SqL.of hJr,hN⟩⟩) fun bs J sJ pr pl2 hpl2=>?_⟩
  obtain ⟨c1,c2,c3,c4,rfl,e1,e2,e3,e4⟩:=h_h pr
  refine ⟨pl2,_,rfl,.inl ⟨SqL.of z_d,fun pt hpt=>?_⟩⟩
  have u9:=(z_f hpl2 (.lst ([c1,c2,c3,c4].map V.ref))).trans (z_f hpt (.tup ([c1,c2,c3,c4].map V.ref)))
  have fk:=z_d (H:=upd J pl2 (.lst ([c1,c2,c3,c4].map V.ref))) (a:=pt) (o:=.tup ([c1,c2,c3,c4].map V.ref))
  dsimp only [gName]
  generalize upd (upd J pl2 (.lst ([c1,c2,c3,c4].map V.ref))) pt (.tup ([c1,c2,c3,c4].map V.ref))=H14 at u9 fk ⊢
  have s14:=sJ.trans u9
  have hP14:=hP13.same s14
  have pap14:=hP14.as false fk (u9 _ _ e1) (u9 _ _ e2) (u9 _ _ e3) (u9 _ _ e4)
  have G4:=G1.same s14
  have fh4:=s14 _ _ fh
  refine ⟨_,rfl,_,rfl,_,rfl,j,bj,gj,oj,ph,pt,bes A1 B1,_,gls A1 B1 tw,_,_,rfl,hj13.same s14,hJ,by lia,⟨true,rsg,fh4,prs_un G4.2⟩,pap14,pok,(s013.trans s14) _ _ htp,fun H15 s15=>?_⟩
  refine ⟨rfl,_,rfl,x_d (by rw [decide_eq_true rfl];rfl) ?_⟩
  have G5:=G4.same s15
  refine ⟨_,rfl,_,rfl,rEqD.eq _ (PrsR.rd (b:=ph) ⟨s15 _ _ fh4,G5.2⟩) G5.rd ((q_t _).mono (by decide)) ⟨_,rfl,iteF ?_⟩⟩
  have s15':=s14.trans s15
  have hA15:=hA13.same s15'
  have hB15:=hB13.same s15'
  have s015:=s013.trans s15'
  clear hA13 hB13 hP13 hP14 pap14 s013 s14 s15 s15' e1 e2 e3 e4 fk G1 G4 G5 fh fh4 hj13 sJ u9 pr
  refine ⟨_,rfl,w,_,_,_,rfl,rfl,SqT.of hA15.w,rfl,zl0,fun q1 hq1=>⟨zl0,fun q2 hq2=>?_⟩⟩
  have v1:=(z_f hq1 (.lst [])).trans (z_f hq2 (.lst []))
  have g1:=z_f hq2 (.lst []) _ _ (z_d (H:=H15) (a:=q1) (o:=.lst []))
  have g2:=z_d (H:=upd H15 q1 (.lst [])) (a:=q2) (o:=.lst [])
  generalize upd (upd H15 q1 (.lst [])) q2 (.lst [])=H16 at v1 g1 g2 ⊢
  have hA16:=hA15.same v1
  refine ⟨_,rfl,w,_,_,_,rfl,rfl,SqT.of hA16.w,rfl,o,rfl,⟨_,SqL.of hA16.o⟩,x_w (xs:=A1.outs.map V.int) (fun i ys J=>H16=J/\ys=((A1.outs.take i).filter fun e=>decide (e<2*(1+(A1.ins:Int)))).map V.int) ⟨rfl,rfl⟩ ?_ ?_ ?_ ?_⟩
  ·rintro k ys J _ ⟨rfl,_⟩
   exact SqL.of hA16.o
  ·rintro k ys J hk ⟨_,rfl⟩
   rw [List.length_map]
   have:=List.length_filter_le (fun e:Int=>decide (e<2*(1+(A1.ins:Int)))) (A1.outs.take k)
   rw [List.length_take] at this
   exact y_b (by lia)
  ·rintro k v ys J hv ⟨rfl,rfl⟩
   rw [List.getElem?_map] at hv
   obtain ⟨e,he,rfl⟩:=Option.map_eq_some_iff.mp hv
   refine ⟨_,rfl,_,rfl,w,_,_,_,rfl,rfl,SqT.of hA16.w,rfl,_,_,rfl,rfl,_,_,rfl,rfl,.inl ⟨by decide,by decide⟩,_,_,rfl,rfl,_,rfl,?_⟩
   rw [y_u he,List.filter_append,List.map_append]
   refine ite2 (fun c=>?_) (fun c=>?_)
   ·refine ⟨_,rfl,rfl,?_⟩
    have c':decide (e<2*(1+(A1.ins:Int)))=true:=c
    rw [List.filter_cons_of_pos (p:=fun e:Int=>decide (e<2*(1+(A1.ins:Int)))) c']
    rfl
   ·refine ⟨rfl,?_⟩
    have c':¬decide (e<2*(1+(A1.ins:Int)))=true:=c
    rw [List.filter_cons_of_neg (p:=fun e:Int=>decide (e<2*(1+(A1.ins:Int)))) c']
    exact (List.append_nil _).symm
  rintro ys J ⟨rfl,rfl⟩ q3 hq3
  rw [ol,List.take_length]
  have v2:=z_f hq3 (.lst (((A1.outs.filter fun e=>decide (e<2*(1+(A1.ins:Int)))).map V.int)))
  have g3:=z_d (H:=H16) (a:=q3) (o:=.lst (((A1.outs.filter fun e=>decide (e<2*(1+(A1.ins:Int)))).map V.int)))
  generalize upd H16 q3 (.lst (((A1.outs.filter fun e=>decide (e<2*(1+(A1.ins:Int)))).map V.int)))=H17 at v2 g3 ⊢
  refine ⟨zl4,fun q4 hq4=>?_⟩
  have v3:=z_f hq4 (.tup [.int (A1.ins:Int),.ref q1,.ref q2,.ref q3])
  have g4:=z_d (H:=H17) (a:=q4) (o:=.tup [.int (A1.ins:Int),.ref q1,.ref q2,.ref q3])
  dsimp only [gName]
  generalize upd H17 q4 (.tup [.int (A1.ins:Int),.ref q1,.ref q2,.ref q3])=H18 at v3 g4 ⊢
  have v23:=v2.trans v3
  have hbar:IsWkA H18 q4 q1 q2 q3 (barW A1):=⟨g4,⟨[],v23 _ _ g1,.nil⟩,⟨[],v23 _ _ g2,.nil⟩,v3 _ _ g3⟩
  have v18:=v1.trans v23
  have hA18:=hA15.same v18
  have hB18:=hB15.same v18
  have s018:=s015.trans v18
  clear hA15 hB15 hA16 v1 v2 v3 v23 v18 g1 g2 g3 g4 s015
  refine ⟨_,rfl,_,rfl,zl0,fun y1 hy1=>⟨zl0,fun y2 hy2=>⟨zl0,fun y3 hy3=>⟨zl0,fun y4 hy4=>⟨zl4,fun y5 hy5=>?_⟩⟩⟩⟩⟩
  have w1:=z_f hy1 (.lst [])
  have w2:=z_f hy2 (.tup [])
  have w3:=z_f hy3 (.lst [])
  have w4:=z_f hy4 (.tup [])
  have w5:=z_f hy5 (.tup [.ref y1,.ref y2,.ref y3,.ref y4])
  have w25:=w2.trans (w3.trans (w4.trans w5))
  have w15:=w1.trans w25
  have okb:=bar_ok okA
  have hbo:(barW A1).outs.length<=8:=Nat.le_trans (List.length_filter_le _ _) o8
  refine ⟨q4,q1,q2,q3,q4,q1,q2,q3,y5,barW A1,barW A1,barG A1,[],[],[],rfl,hbar.same w15,hbar.same w15,okb,okb,rfl,rfl,i_t okb okb rfl (by show 0+0<=40;decide) (by show 0+0<=2000;decide) (by lia),?_,⟨y1,y2,y3,y4,z_d,⟨true,[],w25 _ _ z_d,.nil⟩,⟨false,[],(w3.trans (w4.trans w5)) _ _ z_d,.nil⟩,⟨true,[],(w4.trans w5) _ _ z_d,.nil⟩,⟨false,[],w5 _ _ z_d,.nil⟩⟩,bar_gls okA,i_r okA,(s018.trans w15) _ _ htp,fun H19 s19=>?_⟩
  ·rw [u_i,nB_is]
   show 1+A1.ins+(0+0)+(0+0)<=400
   lia
  refine ⟨rfl,_,rfl,x_d (by rw [decide_eq_true rfl];rfl) ?_⟩
  have w19:=w15.trans s19
  have hA19:=hA18.same w19
  have hB19:=hB18.same w19
  have s019:=s018.trans w19
  refine ⟨_,rfl,_,rfl,_,rfl,_,rfl,_,_,rfl,rfl,a,ns,_,_,rfl,s019.seq hS,h63,by lia,by decide,by decide,fun r20 rw' H20 hr20 s20 hr203 hrl20 hrd20 hre20=>?_⟩
  rw [<-hre6] at hre20
  subst hre20
  refine ⟨w,b,g,o,r20,A1,rw',rfl,hA19.same s20,okA,g12,hr203,by lia,hrd20,fun t21 w21 b21 g21 o21 tl21 tw21 H21 s21 ht21 hB21 _ _ _ _=>?_⟩
  rw [<-hB1] at hB21
  refine ⟨t21,_,_,_,rfl,rfl,SqT.of ht21,rfl,rEqD.eq _ (hB19.same (s20.trans s21)).rd hB21.rd (dWk_cmp _) ⟨_,rfl,iteF ?_⟩⟩
  exact ⟨_,_,_,_,_,_,_,_,_,_,_,_,rfl,s019.trans (s20.trans s21)⟩
 ·rintro σ H2 ⟨x1,x2,x3,x4,x5,x6,x7,x8,x9,x10,x11,x12,rfl,s2⟩
  exact q H2
end
theorem all_ok{P:Program}{w:World}{K:PySem.W.Frag}{mg:Str->Option Value}{base:Heap}{A:Ad}(T:Tx w K mg A)(C_bits_of_both:LamAt mg base A.tc_bits_of_both A.tp_bits_of_both)(C_sets_of_both:LamAt mg base A.tc_sets_of_both A.tp_sets_of_both):FnOk P w K mg base CX0 10 A.a_law A.d_law ["_law_script"] (f_i K A.tp_bits_of_both z_q z_n A.tp_sets_of_both y_y y_z):=by
 have G_Classes_init:=r_l (P:=P) (base:=base) T
 have G_Classes_least:=u_g (P:=P) (base:=base) T
 have G_Classes_alike:=s_k (P:=P) (base:=base) T G_Classes_least
 have G_Classes_join:=r_m (P:=P) (base:=base) T G_Classes_least
 have G_now_net:=i_g (P:=P) (base:=base) T
 have G_start_end:=n_d (P:=P) (base:=base) T
 have G_start_net:=n_e (P:=P) (base:=base) T G_start_end
 have G_now_end:=i_f (P:=P) (base:=base) T
 have G_then_end:=l_d (P:=P) (base:=base) T G_now_end
 have G_next_net:=l_c (P:=P) (base:=base) T G_now_end G_then_end
 have G_is_whole:=m_z (P:=P) (base:=base) T
 have G_is_between:=p_d (P:=P) (base:=base) T G_is_whole
 have G_all_stands:=p_b (P:=P) (base:=base) T
 have G_knots_in:=l_a (P:=P) (base:=base) T
 have G_is_end:=g_h (P:=P) (base:=base) T G_is_between
 have G_is_pair:=i_d (P:=P) (base:=base) T G_is_end
 have G_first_end:=n_a (P:=P) (base:=base) T
 have G_second_end:=p_g (P:=P) (base:=base) T
 have G_beside:=g_g (P:=P) (base:=base) T G_first_end G_second_end
 have G_is_step:=i_e (P:=P) (base:=base) T G_Classes_least G_is_end
 have G_below:=k_f (P:=P) (base:=base) T
 have G_found_of:=fun base':Heap=>m_y (P:=P) (base:=base') T (u_g (P:=P) (base:=base') T) (k_f (P:=P) (base:=base') T)
 have G_both_bits:=fun base':Heap=>o_z (P:=P) (base:=base') T
 have G_bits_of_both:=r_n (P:=P) (base:=base) T C_bits_of_both G_all_stands G_found_of G_both_bits G_Classes_least
 have G_sets_of_both:=no_fn (P:=P) (w:=w) (K:=K) (mg:=mg) (base:=base) (k:=1) (f:=A.a_sets_of_both) (fd:=A.d_sets_of_both) (ps:=["net", "classes", "step"])
 have G_is_good:=i_c (P:=P) (base:=base) T G_is_step G_bits_of_both G_sets_of_both
 have G_both_sets:=no_fn (P:=P) (w:=w) (K:=K) (mg:=mg) (base:=base) (k:=1) (f:=A.a_both_sets) (fd:=A.d_both_sets) (ps:=["one", "other"])
 have G_classes_of:=p_c (P:=P) (base:=base) T G_Classes_init
 have G_take_steps:=p_h (P:=P) (base:=base) T G_is_good G_Classes_join
 have G_look_starts:=q_i (P:=P) (base:=base) T G_classes_of G_take_steps G_start_net G_Classes_alike G_start_end
 have G_look_nexts:=p_e (P:=P) (base:=base) T G_classes_of G_take_steps G_next_net G_Classes_join G_Classes_alike G_now_end G_then_end
 have G_look_nows:=n_b (P:=P) (base:=base) T G_classes_of G_take_steps G_now_net G_Classes_join G_Classes_alike
 have G_look_paper:=p_f (P:=P) (base:=base) T G_look_starts G_look_nexts G_look_nows G_is_pair G_knots_in
 have G_look_pair:=n_c (P:=P) (base:=base) T
 have G_look_two:=l_b (P:=P) (base:=base) T G_look_pair G_look_paper G_beside G_first_end G_second_end
 have G_L_row:=ok_L_row (P:=P) (base:=base) T
 have G_L_size:=g_d (P:=P) (base:=base) T
 have G_L_work:=g_f (P:=P) (base:=base) T G_L_size
 have G_L_end:=ok_L_end (P:=P) (base:=base) T
 have G_L_swapped:=o_y (P:=P) (base:=base) T G_L_end
 have G_L_joined:=m_v (P:=P) (base:=base) T
 have G_L_nets:=g_c (P:=P) (base:=base) T G_L_swapped G_L_end
 have G_L_twin:=g_e (P:=P) (base:=base) T G_L_end
 have G_L_joint:=i_a (P:=P) (base:=base) T G_L_swapped G_L_end
 have G_L_leaves:=m_w (P:=P) (base:=base) T
 have G_L_walked:=m_x (P:=P) (base:=base) T G_L_joined G_L_end G_L_leaves
 have G_L_paper:=i_b (P:=P) (base:=base) T G_L_joint G_L_nets G_L_walked G_L_end
 exact ok_law T G_L_work G_L_twin G_L_paper G_L_joint G_L_row G_look_two G_look_paper
theorem u_b{fd:FuncData}{ns:List Str}(h:∀ a0,bindArgs fd ⟨[a0],[]⟩=pure (ns.zip [a0])):∀ us:List Value,us.length=1->bindArgs fd ⟨us,[]⟩=pure (ns.zip us):=fun us hl=>by
 exact w_n (P:=fun us=>bindArgs fd ⟨us,[]⟩=pure (ns.zip (us))) (fun a0=>h_s (h a0)) us hl
theorem x_f{fd:FuncData}{ns:List Str}(h:∀ a0 a1,bindArgs fd ⟨[a0,a1],[]⟩=pure (ns.zip [a0,a1])):∀ us:List Value,us.length=2->bindArgs fd ⟨us,[]⟩=pure (ns.zip us):=fun us hl=>by
 exact w_n (P:=fun us=>bindArgs fd ⟨us,[]⟩=pure (ns.zip (us))) (fun a0=>w_n (P:=fun us=>bindArgs fd ⟨a0::us,[]⟩=pure (ns.zip (a0::us))) (fun a1=>h_s (h a0 a1))) us hl
theorem x_n{fd:FuncData}{ns:List Str}(h:∀ a0 a1 a2,bindArgs fd ⟨[a0,a1,a2],[]⟩=pure (ns.zip [a0,a1,a2])):∀ us:List Value,us.length=3->bindArgs fd ⟨us,[]⟩=pure (ns.zip us):=fun us hl=>by
 exact w_n (P:=fun us=>bindArgs fd ⟨us,[]⟩=pure (ns.zip (us))) (fun a0=>w_n (P:=fun us=>bindArgs fd ⟨a0::us,[]⟩=pure (ns.zip (a0::us))) (fun a1=>w_n (P:=fun us=>bindArgs fd ⟨a0::a1::us,[]⟩=pure (ns.zip (a0::a1::us))) (fun a2=>h_s (h a0 a1 a2)))) us hl
theorem g_a{fd:FuncData}{ns:List Str}(h:∀ a0 a1 a2 a3,bindArgs fd ⟨[a0,a1,a2,a3],[]⟩=pure (ns.zip [a0,a1,a2,a3])):∀ us:List Value,us.length=4->bindArgs fd ⟨us,[]⟩=pure (ns.zip us):=fun us hl=>by
 exact w_n (P:=fun us=>bindArgs fd ⟨us,[]⟩=pure (ns.zip (us))) (fun a0=>w_n (P:=fun us=>bindArgs fd ⟨a0::us,[]⟩=pure (ns.zip (a0::us))) (fun a1=>w_n (P:=fun us=>bindArgs fd ⟨a0::a1::us,[]⟩=pure (ns.zip (a0::a1::us))) (fun a2=>w_n (P:=fun us=>bindArgs fd ⟨a0::a1::a2::us,[]⟩=pure (ns.zip (a0::a1::a2::us))) (fun a3=>h_s (h a0 a1 a2 a3))))) us hl
theorem g_b{fd:FuncData}{ns:List Str}(h:∀ a0 a1 a2 a3 a4 a5,bindArgs fd ⟨[a0,a1,a2,a3,a4,a5],[]⟩=pure (ns.zip [a0,a1,a2,a3,a4,a5])):∀ us:List Value,us.length=6->bindArgs fd ⟨us,[]⟩=pure (ns.zip us):=fun us hl=>by
 exact w_n (P:=fun us=>bindArgs fd ⟨us,[]⟩=pure (ns.zip (us))) (fun a0=>w_n (P:=fun us=>bindArgs fd ⟨a0::us,[]⟩=pure (ns.zip (a0::us))) (fun a1=>w_n (P:=fun us=>bindArgs fd ⟨a0::a1::us,[]⟩=pure (ns.zip (a0::a1::us))) (fun a2=>w_n (P:=fun us=>bindArgs fd ⟨a0::a1::a2::us,[]⟩=pure (ns.zip (a0::a1::a2::us))) (fun a3=>w_n (P:=fun us=>bindArgs fd ⟨a0::a1::a2::a3::us,[]⟩=pure (ns.zip (a0::a1::a2::a3::us))) (fun a4=>w_n (P:=fun us=>bindArgs fd ⟨a0::a1::a2::a3::a4::us,[]⟩=pure (ns.zip (a0::a1::a2::a3::a4::us))) (fun a5=>h_s (h a0 a1 a2 a3 a4 a5))))))) us hl
abbrev NI(K:PySem.W.Frag)(n:Str)(f:Addr):Prop:=nsIn K mainGlobals n=some (some (.ref f))
theorem all_mk{w:World}{K:PySem.W.Frag}{h:Heap}{mg:Str->Option Value}{fa:Addr}(X:K.In h)(G:h.Ns mainGlobals mg)(hfa:mg "law" = some (.ref fa))
  {f0 f1 f2 f3 f4 f5 f6 f7 f8 f9 f10 f11 f12 f13 f14 f15 f16 f17 f18 f19 f20 f21 f22 f23 f24 f25 f26 f27 f28 f29 f30 f31 f32 f33 f34 f35 f36 f37 f38 f39 f40 f41 f42 f43 f44 f45 f46 f47:Addr} {d0 d1 d2 d3 d4 d5 d6 d7 d8 d9 d10 d11 d12 d13 d14 d15 d16 d17 d18 d19 d20 d22 d24 d25 d26 d27 d28 d29 d30 d31 d32 d33 d34 d35 d36 d37 d38 d39 d40 d41 d42 d43 d44 d45 d46 d47:FuncData}
  {od21 an21 od23 an23:Option Addr} {sl21 sl23:Array (Option Value)} {oc21 kV21 dc21 pm21 cd21 ct21 oc23 kV23 dc23 pm23 cd23 ct23:Value}
  {C_Classes:Addr} (aC_Classes:nsIn K mainGlobals "Classes" = some (some (.ref C_Classes)))
  (a0:findIn K (.ref C_Classes) "__init__" = some (some (.ref f0))) (i0:isFn K (.ref f0)=true) (F0:Fun K "__init__" "Classes.__init__" x_r f0 d0)
  (a1:findIn K (.ref C_Classes) "least" = some (some (.ref f1))) (i1:isFn K (.ref f1)=true) (F1:Fun K "least" "Classes.least" x_l f1 d1)
  (a2:findIn K (.ref C_Classes) "alike" = some (some (.ref f2))) (i2:isFn K (.ref f2)=true) (F2:Fun K "alike" "Classes.alike" x_k f2 d2)
  (a3:findIn K (.ref C_Classes) "join" = some (some (.ref f3))) (i3:isFn K (.ref f3)=true) (F3:Fun K "join" "Classes.join" x_s f3 d3)
  (a4:NI K "now_net" f4) (F4:Fun K "now_net" "now_net" u_t f4 d4)
  (a5:NI K "start_net" f5) (F5:Fun K "start_net" "start_net" v_b f5 d5)
  (a6:NI K "next_net" f6) (F6:Fun K "next_net" "next_net" v_v f6 d6)
  (a7:NI K "start_end" f7) (F7:Fun K "start_end" "start_end" v_a f7 d7)
  (a8:NI K "now_end" f8) (F8:Fun K "now_end" "now_end" u_s f8 d8)
  (a9:NI K "then_end" f9) (F9:Fun K "then_end" "then_end" v_w f9 d9)
  (a10:NI K "is_whole" f10) (F10:Fun K "is_whole" "is_whole" v_s f10 d10)
  (a11:NI K "is_between" f11) (F11:Fun K "is_between" "is_between" w_f f11 d11)
  (a12:NI K "all_stands" f12) (F12:Fun K "all_stands" "all_stands" w_d f12 d12)
  (a13:NI K "knots_in" f13) (F13:Fun K "knots_in" "knots_in" v_t f13 d13)
  (a14:NI K "is_end" f14) (F14:Fun K "is_end" "is_end" t_w f14 d14)
  (a15:NI K "is_pair" f15) (F15:Fun K "is_pair" "is_pair" u_q f15 d15)
  (a16:NI K "beside" f16) (F16:Fun K "beside" "beside" t_v f16 d16)
  (a17:NI K "first_end" f17) (F17:Fun K "first_end" "first_end" w_x f17 d17)
  (a18:NI K "second_end" f18) (F18:Fun K "second_end" "second_end" w_i f18 d18)
  (a19:NI K "is_good" f19) (F19:Fun K "is_good" "is_good" u_p f19 d19)
  (a20:NI K "is_step" f20) (F20:Fun K "is_step" "is_step" u_r f20 d20)
  (a21:nsIn K mainGlobals "bits_of_both" = some (some (.ref f21))) (l21:K.lookup f21=some ⟨oc21,od21,.func (fnOf "bits_of_both" "bits_of_both" (v_h y_f) (w_k y_f) (z_p y_f) .none kV21 dc21 pm21 an21 cd21 ct21),sl21⟩) (c21:codeIn K cd21 "bits_of_both" = true) (k21:keepIn K (.ref f21)=true)
  (a22:NI K "both_bits" f22) (F22:Fun K "both_bits" "both_bits" w_w f22 d22)
  (a23:nsIn K mainGlobals "sets_of_both" = some (some (.ref f23))) (l23:K.lookup f23=some ⟨oc23,od23,.func (fnOf "sets_of_both" "sets_of_both" (v_h y_i) (w_k y_i) (z_p y_i) .none kV23 dc23 pm23 an23 cd23 ct23),sl23⟩) (c23:codeIn K cd23 "sets_of_both" = true) (k23:keepIn K (.ref f23)=true)
  (a24:NI K "both_sets" f24) (F24:Fun K "both_sets" "both_sets" u_d f24 d24)
  (a25:NI K "found_of" f25) (F25:Fun K "found_of" "found_of" v_r f25 d25)
  (a26:NI K "below" f26) (F26:Fun K "below" "below" r_u f26 d26)
  (a27:NI K "look_paper" f27) (F27:Fun K "look_paper" "look_paper" w_h f27 d27)
  (a28:NI K "look_starts" f28) (F28:Fun K "look_starts" "look_starts" x_x f28 d28)
  (a29:NI K "look_nexts" f29) (F29:Fun K "look_nexts" "look_nexts" w_g f29 d29)
  (a30:NI K "look_nows" f30) (F30:Fun K "look_nows" "look_nows" w_y f30 d30)
  (a31:NI K "classes_of" f31) (F31:Fun K "classes_of" "classes_of" w_e f31 d31)
  (a32:NI K "take_steps" f32) (F32:Fun K "take_steps" "take_steps" w_j f32 d32)
  (a33:NI K "look_pair" f33) (F33:Fun K "look_pair" "look_pair" w_z f33 d33)
  (a34:NI K "look_two" f34) (F34:Fun K "look_two" "look_two" v_u f34 d34)
  (a35:NI K "_law_row" f35) (F35:Fun K "_law_row" "_law_row" r_t f35 d35)
  (a36:NI K "_law_size" f36) (F36:Fun K "_law_size" "_law_size" t_s f36 d36)
  (a37:NI K "_law_work" f37) (F37:Fun K "_law_work" "_law_work" t_u f37 d37)
  (a38:NI K "_law_end" f38) (F38:Fun K "_law_end" "_law_end" r_s f38 d38)
  (a39:NI K "_law_swapped" f39) (F39:Fun K "_law_swapped" "_law_swapped" w_v f39 d39)
  (a40:NI K "_law_joined" f40) (F40:Fun K "_law_joined" "_law_joined" v_o f40 d40)
  (a41:NI K "_law_nets" f41) (F41:Fun K "_law_nets" "_law_nets" t_r f41 d41)
  (a42:NI K "_law_twin" f42) (F42:Fun K "_law_twin" "_law_twin" t_t f42 d42)
  (a43:NI K "_law_joint" f43) (F43:Fun K "_law_joint" "_law_joint" u_n f43 d43)
  (a44:NI K "_law_leaves" f44) (F44:Fun K "_law_leaves" "_law_leaves" v_p f44 d44)
  (a45:NI K "_law_walked" f45) (F45:Fun K "_law_walked" "_law_walked" v_q f45 d45)
  (a46:NI K "_law_paper" f46) (F46:Fun K "_law_paper" "_law_paper" u_o f46 d46)
  (a47:NI K "law" f47) (F47:Fun K "law" "law" f_a f47 d47)
  (z0:nsIn K mainGlobals "abs" = some none)
  (z1:nsIn K mainGlobals "all" = some none)
  (z2:nsIn K mainGlobals "bool" = some none)
  (z3:nsIn K mainGlobals "enumerate" = some none)
  (z4:nsIn K mainGlobals "int" = some none)
  (z5:nsIn K mainGlobals "isinstance" = some none)
  (z6:nsIn K mainGlobals "len" = some none)
  (z7:nsIn K mainGlobals "list" = some none)
  (z8:nsIn K mainGlobals "max" = some none)
  (z9:nsIn K mainGlobals "min" = some none)
  (z10:nsIn K mainGlobals "range" = some none)
  (z11:nsIn K mainGlobals "set" = some none)
  (z12:nsIn K mainGlobals "sorted" = some none)
  (z13:nsIn K mainGlobals "str" = some none)
  (z14:nsIn K mainGlobals "tuple" = some none)
  (z15:nsIn K mainGlobals "zip" = some none)
  (pg_Classes:plainGet K C_Classes Str.empty=true) (hd_Classes:hasDictIn K C_Classes=true) (po_Classes:plainOver K C_Classes=true) (sa_Classes:findIn K (.ref C_Classes) "__setattr__" = some (some (.builtin "object.__setattr__"))) (mk_Classes:makesIn K C_Classes=true) (kc_Classes:keepIn K (.ref C_Classes)=true)
  (n_Classes_lesser:findIn K (.ref C_Classes) "lesser" = some none)
  {d_MOST_LEAVES:Addr} (g_MOST_LEAVES:nsIn K mainGlobals "MOST_LEAVES" = some (some (.ref d_MOST_LEAVES)))
  {es:Array DictEntry} {n_F:Nat} (l_MOST_LEAVES:K.lookup d_MOST_LEAVES=some ⟨.type "dict",none,.dict es n_F,#[]⟩) (kF:PySem.W.KeysLit w.params es.toList) (lo_F:(d_MOST_LEAVES == sysModules)=false) {h0 h1:Int} {t0 t1 u0 u1:Tok} (eF:es.toList=[⟨h0,.str "stands" t0,.int 6 u0⟩,⟨h1,.str "row" t1,.int 64 u1⟩])
  {t_LOW:Tok} (g_LOW:nsIn K mainGlobals "LOW" = some (some (.str "low" t_LOW)))
  {tc_bits_of_both tp_bits_of_both:Addr} {occ_bits_of_both:Value} {odc_bits_of_both:Option Addr} {vs_bits_of_both:Array Value} {slc_bits_of_both:Array (Option Value)} (ee_bits_of_both:cd21 = .ref tc_bits_of_both) (lc_bits_of_both:K.lookup tc_bits_of_both=some ⟨occ_bits_of_both,odc_bits_of_both,.fields vs_bits_of_both,slc_bits_of_both⟩) (vp_bits_of_both:vs_bits_of_both[11]? = some (.ref tp_bits_of_both))
  {tc_sets_of_both tp_sets_of_both:Addr} {occ_sets_of_both:Value} {odc_sets_of_both:Option Addr} {vs_sets_of_both:Array Value} {slc_sets_of_both:Array (Option Value)} (ee_sets_of_both:cd23 = .ref tc_sets_of_both) (lc_sets_of_both:K.lookup tc_sets_of_both=some ⟨occ_sets_of_both,odc_sets_of_both,.fields vs_sets_of_both,slc_sets_of_both⟩) (vp_sets_of_both:vs_sets_of_both[11]? = some (.ref tp_sets_of_both))
  (ndT:([tp_bits_of_both,tp_sets_of_both]:List Addr).Nodup)
  : ∃ A:Ad,A.a_law=fa/\(∀ (s:Shared) (v:Value),BindsTo s A.d_law ⟨[v],[]⟩ [("_law_script",v)])/\Tx w K mg A/\tabIn K "bits_of_both" = some (A.tc_bits_of_both,A.tp_bits_of_both)/\tabIn K "sets_of_both" = some (A.tc_sets_of_both,A.tp_sets_of_both)/\([A.tp_bits_of_both,A.tp_sets_of_both]:List Addr).Nodup:=by
 have e:=hfa.symm.trans (mg_of X G a47)
 cases e
 have F21:=fun_mk (st:=y_f) l21 c21 k21
 have F23:=fun_mk (st:=y_i) l23 c23 k23
 have hb:∀ (s:Shared) (v:Value),BindsTo s d47 ⟨[v],[]⟩ [("_law_script",v)]:=by
  obtain ⟨_,_,_,_,_,_,_,_,_,rfl,_,_⟩:=F47.ex
  exact fun s v=>.of_eq rfl
 subst ee_bits_of_both
 have tb_bits_of_both:tabIn K "bits_of_both" = some (tc_bits_of_both,tp_bits_of_both):=by
  unfold tabIn
  rw [a21]
  dsimp only
  rw [l21]
  dsimp only
  rw [lc_bits_of_both]
  dsimp only
  rw [vp_bits_of_both]
 subst ee_sets_of_both
 have tb_sets_of_both:tabIn K "sets_of_both" = some (tc_sets_of_both,tp_sets_of_both):=by
  unfold tabIn
  rw [a23]
  dsimp only
  rw [l23]
  dsimp only
  rw [lc_sets_of_both]
  dsimp only
  rw [vp_sets_of_both]
 refine ⟨⟨f0,d0,f1,d1,f2,d2,f3,d3,f4,d4,f5,d5,f6,d6,f7,d7,f8,d8,f9,d9,f10,d10,f11,d11,f12,d12,f13,d13,f14,d14,f15,d15,f16,d16,f17,d17,f18,d18,f19,d19,f20,d20,f21,fnOf "bits_of_both" "bits_of_both" (v_h y_f) (w_k y_f) (z_p y_f) .none kV21 dc21 pm21 an21 (.ref tc_bits_of_both) ct21,f22,d22,f23,fnOf "sets_of_both" "sets_of_both" (v_h y_i) (w_k y_i) (z_p y_i) .none kV23 dc23 pm23 an23 (.ref tc_sets_of_both) ct23,f24,d24,f25,d25,f26,d26,f27,d27,f28,d28,f29,d29,f30,d30,f31,d31,f32,d32,f33,d33,f34,d34,f35,d35,f36,d36,f37,d37,f38,d38,f39,d39,f40,d40,f41,d41,f42,d42,f43,d43,f44,d44,f45,d45,f46,d46,fa,d47,d_MOST_LEAVES,C_Classes,tc_bits_of_both,tp_bits_of_both,tc_sets_of_both,tp_sets_of_both⟩,rfl,hb,?_,tb_bits_of_both,tb_sets_of_both,ndT⟩
 exact ⟨mg_none_of X G z0,mg_none_of X G z1,mg_none_of X G z2,mg_none_of X G z3,mg_none_of X G z4,mg_none_of X G z5,mg_none_of X G z6,mg_none_of X G z7,mg_none_of X G z8,mg_none_of X G z9,mg_none_of X G z10,mg_none_of X G z11,mg_none_of X G z12,mg_none_of X G z13,mg_none_of X G z14,mg_none_of X G z15,mg_of X G g_MOST_LEAVES,⟨[("stands",.int 6),("row",.int 64)],⟨⟨es,n_F,l_MOST_LEAVES,kF,by rw [eF];exact .cons ⟨⟨_,rfl⟩,⟨_,rfl⟩⟩ (.cons ⟨⟨_,rfl⟩,⟨_,rfl⟩⟩ .nil)⟩,lo_F⟩,rfl⟩,⟨_,mg_of X G g_LOW⟩,F0,F0.binds fun _ _ _ _ _ _ us hl=>x_f (fun _ _=>rfl) us hl,⟨mk_Classes,a0,i0,kc_Classes⟩,F1,F1.binds fun _ _ _ _ _ _ us hl=>x_f (fun _ _=>rfl) us hl,⟨a1,i1,F1.kp⟩,F2,F2.binds fun _ _ _ _ _ _ us hl=>x_n (fun _ _ _=>rfl) us hl,⟨a2,i2,F2.kp⟩,F3,F3.binds fun _ _ _ _ _ _ us hl=>x_n (fun _ _ _=>rfl) us hl,⟨a3,i3,F3.kp⟩,F4,F4.binds fun _ _ _ _ _ _ us hl=>u_b (fun _=>rfl) us hl,mg_of X G a4,F5,F5.binds fun _ _ _ _ _ _ us hl=>u_b (fun _=>rfl) us hl,mg_of X G a5,F6,F6.binds fun _ _ _ _ _ _ us hl=>u_b (fun _=>rfl) us hl,mg_of X G a6,F7,F7.binds fun _ _ _ _ _ _ us hl=>x_f (fun _ _=>rfl) us hl,mg_of X G a7,F8,F8.binds fun _ _ _ _ _ _ us hl=>x_f (fun _ _=>rfl) us hl,mg_of X G a8,F9,F9.binds fun _ _ _ _ _ _ us hl=>x_f (fun _ _=>rfl) us hl,mg_of X G a9,F10,F10.binds fun _ _ _ _ _ _ us hl=>u_b (fun _=>rfl) us hl,mg_of X G a10,F11,F11.binds fun _ _ _ _ _ _ us hl=>x_n (fun _ _ _=>rfl) us hl,mg_of X G a11,F12,F12.binds fun _ _ _ _ _ _ us hl=>u_b (fun _=>rfl) us hl,mg_of X G a12,F13,F13.binds fun _ _ _ _ _ _ us hl=>u_b (fun _=>rfl) us hl,mg_of X G a13,F14,F14.binds fun _ _ _ _ _ _ us hl=>x_f (fun _ _=>rfl) us hl,mg_of X G a14,F15,F15.binds fun _ _ _ _ _ _ us hl=>x_f (fun _ _=>rfl) us hl,mg_of X G a15,F16,F16.binds fun _ _ _ _ _ _ us hl=>x_f (fun _ _=>rfl) us hl,mg_of X G a16,F17,F17.binds fun _ _ _ _ _ _ us hl=>x_n (fun _ _ _=>rfl) us hl,mg_of X G a17,F18,F18.binds fun _ _ _ _ _ _ us hl=>x_n (fun _ _ _=>rfl) us hl,mg_of X G a18,F19,F19.binds fun _ _ _ _ _ _ us hl=>x_n (fun _ _ _=>rfl) us hl,mg_of X G a19,F20,F20.binds fun _ _ _ _ _ _ us hl=>x_n (fun _ _ _=>rfl) us hl,mg_of X G a20,F21,F21.binds fun _ _ _ _ _ _ us hl=>x_n (fun _ _ _=>rfl) us hl,mg_of X G a21,F22,F22.binds fun _ _ _ _ _ _ us hl=>x_f (fun _ _=>rfl) us hl,mg_of X G a22,F23,F23.binds fun _ _ _ _ _ _ us hl=>x_n (fun _ _ _=>rfl) us hl,mg_of X G a23,F24,F24.binds fun _ _ _ _ _ _ us hl=>x_f (fun _ _=>rfl) us hl,mg_of X G a24,F25,F25.binds fun _ _ _ _ _ _ us hl=>g_b (fun _ _ _ _ _ _=>rfl) us hl,mg_of X G a25,F26,F26.binds fun _ _ _ _ _ _ us hl=>x_f (fun _ _=>rfl) us hl,mg_of X G a26,F27,F27.binds fun _ _ _ _ _ _ us hl=>x_n (fun _ _ _=>rfl) us hl,mg_of X G a27,F28,F28.binds fun _ _ _ _ _ _ us hl=>x_n (fun _ _ _=>rfl) us hl,mg_of X G a28,F29,F29.binds fun _ _ _ _ _ _ us hl=>x_n (fun _ _ _=>rfl) us hl,mg_of X G a29,F30,F30.binds fun _ _ _ _ _ _ us hl=>g_a (fun _ _ _ _=>rfl) us hl,mg_of X G a30,F31,F31.binds fun _ _ _ _ _ _ us hl=>u_b (fun _=>rfl) us hl,mg_of X G a31,F32,F32.binds fun _ _ _ _ _ _ us hl=>g_a (fun _ _ _ _=>rfl) us hl,mg_of X G a32,F33,F33.binds fun _ _ _ _ _ _ us hl=>x_f (fun _ _=>rfl) us hl,mg_of X G a33,F34,F34.binds fun _ _ _ _ _ _ us hl=>x_n (fun _ _ _=>rfl) us hl,mg_of X G a34,F35,F35.binds fun _ _ _ _ _ _ us hl=>x_n (fun _ _ _=>rfl) us hl,mg_of X G a35,F36,F36.binds fun _ _ _ _ _ _ us hl=>x_f (fun _ _=>rfl) us hl,mg_of X G a36,F37,F37.binds fun _ _ _ _ _ _ us hl=>x_f (fun _ _=>rfl) us hl,mg_of X G a37,F38,F38.binds fun _ _ _ _ _ _ us hl=>x_f (fun _ _=>rfl) us hl,mg_of X G a38,F39,F39.binds fun _ _ _ _ _ _ us hl=>x_f (fun _ _=>rfl) us hl,mg_of X G a39,F40,F40.binds fun _ _ _ _ _ _ us hl=>x_n (fun _ _ _=>rfl) us hl,mg_of X G a40,F41,F41.binds fun _ _ _ _ _ _ us hl=>u_b (fun _=>rfl) us hl,mg_of X G a41,F42,F42.binds fun _ _ _ _ _ _ us hl=>x_f (fun _ _=>rfl) us hl,mg_of X G a42,F43,F43.binds fun _ _ _ _ _ _ us hl=>x_f (fun _ _=>rfl) us hl,mg_of X G a43,F44,F44.binds fun _ _ _ _ _ _ us hl=>x_f (fun _ _=>rfl) us hl,mg_of X G a44,F45,F45.binds fun _ _ _ _ _ _ us hl=>g_b (fun _ _ _ _ _ _=>rfl) us hl,mg_of X G a45,F46,F46.binds fun _ _ _ _ _ _ us hl=>x_n (fun _ _ _=>rfl) us hl,mg_of X G a46,F47,F47.binds fun _ _ _ _ _ _ us hl=>u_b (fun _=>rfl) us hl,mg_of X G a47,⟨pg_Classes,hd_Classes,po_Classes,sa_Classes⟩,mg_of X G aC_Classes,n_Classes_lesser,rfl,rfl⟩
theorem walk{l:PySem.W.OpenLaw}{q:Program}{loose:List Str}{XP:(Str->Option Value)->Heap->Prop}{YP:World->Heap->Prop}{d:DefRec}{K:Params->PySem.W.Frag}(hn:l.most=some 63)(hdf:d.params.defaults=[])(hnm:d.name = "law")
  (hY:∀ (w:World) (h:Heap),YP w h->(K w.params).In h) (hNo:∀ w:World,noTabs (K w.params)=true) (hr_bits_of_both:∃ d,(PyProof.Rows.recsOf q).find? (fun e=>e.name == ("bits_of_both" : Str))=some d) (hr_sets_of_both:∃ d,(PyProof.Rows.recsOf q).find? (fun e=>e.name == ("sets_of_both" : Str))=some d)
  (F:∀ (w:World) (mg:Str->Option Value) (fa:Addr) (h:Heap),(K w.params).In h->h.Ns mainGlobals mg->mg "law" = some (.ref fa) ->
   ∃ A:Ad,A.a_law=fa/\(∀ (s:Shared) (v:Value),BindsTo s A.d_law ⟨[v],[]⟩ [("_law_script",v)])/\Tx w (K w.params) mg A/\tabIn (K w.params) "bits_of_both" = some (A.tc_bits_of_both,A.tp_bits_of_both)/\tabIn (K w.params) "sets_of_both" = some (A.tc_sets_of_both,A.tp_sets_of_both)/\([A.tp_bits_of_both,A.tp_sets_of_both]:List Addr).Nodup) :
  PySem.W.WalkO q loose XP YP l.row.toRowW d [] (fun f vs=>PySem.call f vs):=by
 refine L2.walk_ofT (n:=63) (k:=10) (x := "_law_script") hn (by decide) hdf ⟨rfl,by decide,by decide⟩ hY (fun w mg mb ls mean fa h k1 k2 TT k3=>?_)
 obtain ⟨A,rfl,hb,T,tb_bits_of_both,tb_sets_of_both,nd⟩:=F w mg fa h k1 k2 (by rw [<-hnm];exact k3)
 refine ⟨A.d_law,[(A.tc_bits_of_both,A.tp_bits_of_both,z_q,z_n),(A.tc_sets_of_both,A.tp_sets_of_both,y_y,y_z)],(f_i (K w.params) A.tp_bits_of_both z_q z_n A.tp_sets_of_both y_y y_z),hb,fun t ht=>?_,nd,hNo w,fun base _ _ C=>all_ok T (C (A.tc_bits_of_both,A.tp_bits_of_both,z_q,z_n) (by simp)) (C (A.tc_sets_of_both,A.tp_sets_of_both,y_y,y_z) (by simp)),fun H a ns hl ht hS=>⟨a,ns,rfl,hS,hl,ht (A.tc_bits_of_both,A.tp_bits_of_both,z_q,z_n) (by simp),ht (A.tc_sets_of_both,A.tp_sets_of_both,y_y,y_z) (by simp),fun _=>rfl⟩⟩
 simp only [List.mem_cons,List.not_mem_nil,or_false] at ht
 rcases ht with rfl | rfl
 ·obtain ⟨_,z⟩:=hr_bits_of_both
  exact PySem.W.tab_of TT k1 z tb_bits_of_both
 ·obtain ⟨_,z⟩:=hr_sets_of_both
  exact PySem.W.tab_of TT k1 z tb_sets_of_both
abbrev hS(x:String)(t:Nat):Value:=.str (Str.ofString x) t
abbrev hE(P:Params)(x:String)(t:Nat)(v:Value):DictEntry:=⟨PyData.keyHash P (Str.ofString x),.str (Str.ofString x) t,v⟩
abbrev hF(n q:String)(st:Stmt)(df kd doc pm:Value)(an:Option Addr)(cd ct:Value):Obj:=⟨.type "function",none,.func (fnOf n q (v_h st) (w_k st) (z_p st) df kd doc pm an cd ct),#[]⟩
abbrev hC(n q:String)(t:Nat)(l a k:Int)(r1 r2:Nat)(x y:Value)(r3:Nat)(u:Int)(z:Nat):Obj:=⟨.type "code",none,.fields [hS n t,hS q (t+1),hS "/claim/cut.py" (t+2),.int l 0,.int a 0,.int 0 0,.int 0 0,.int k 0,.ref r1,.bool true,.int 181 0,.ref r2,.none,x,y,.ref r3,.int u 0,.int l 0,hS "/claim/cut.py" z].toArray,#[]⟩
def hK:Params->PySem.W.Frag:=fun P =>
 (nat_lit 2,⟨.none,none,.dict ([]).toArray 0,#[]⟩) ::
 (nat_lit 3,⟨(.type "dict"),none,.dict (hE P "__name__" 165 (hS "law_lampforge_k39_papers_by_hand" 598)::hE P "__doc__" 166 .none::hE P "__package__" 167 .none::hE P "__loader__" 168 (.builtin "__main__.__loader__#opaque")::hE P "__spec__" 169 .none::hE P "__annotations__" 170 (.ref 6)::hE P "__builtins__" 171 (.ref 4)::hE P "__file__" 173 (hS "/claim/cut.py" 172)::hE P "__cached__" 174 .none::hE P "Classes" 246 (.ref 50)::hE P "ForgeError" 266 (.ref 64)::hE P "NoPair" 282 (.ref 77)::hE P "NoPaper" 309 (.ref 96)::hE P "now_net" 318 (.ref 105)::hE P "start_net" 324 (.ref 110)::hE P "next_net" 330 (.ref 115)::hE P "start_end" 339 (.ref 122)::hE P "now_end" 347 (.ref 129)::hE P "then_end" 356 (.ref 136)::hE P "is_whole" 365 (.ref 143)::hE P "is_between" 374 (.ref 150)::hE P "all_stands" 382 (.ref 155)::hE P "knots_in" 391 (.ref 162)::hE P "is_end" 399 (.ref 169)::hE P "is_pair" 407 (.ref 176)::hE P "beside" 413 (.ref 181)::hE P "first_end" 422 (.ref 188)::hE P "second_end" 431 (.ref 195)::hE P "MOST_LEAVES" 440 (.ref 196)::hE P "LOW" 442 (hS "low" 441)::hE P "is_good" 452 (.ref 203)::hE P "is_step" 458 (.ref 208)::hE P "bits_of_both" 473 (.ref 215)::hE P "both_bits" 481 (.ref 222)::hE P "sets_of_both" 493 (.ref 229)::hE P "both_sets" 503 (.ref 236)::hE P "found_of" 509 (.ref 241)::hE P "below" 517 (.ref 248)::hE P "look_paper" 525 (.ref 253)::hE P "look_starts" 537 (.ref 260)::hE P "look_nexts" 551 (.ref 267)::hE P "look_nows" 564 (.ref 274)::hE P "classes_of" 571 (.ref 281)::hE P "take_steps" 583 (.ref 288)::hE P "look_pair" 591 (.ref 295)::hE P "look_two" 597 (.ref 300)::hE P "_law_row" 614 (.ref 307)::hE P "_law_size" 622 (.ref 314)::hE P "_law_work" 628 (.ref 319)::hE P "_law_end" 636 (.ref 326)::hE P "_law_swapped" 642 (.ref 331)::hE P "_law_joined" 648 (.ref 336)::hE P "_law_nets" 654 (.ref 341)::hE P "_law_twin" 660 (.ref 346)::hE P "_law_joint" 666 (.ref 351)::hE P "_law_leaves" 677 (.ref 358)::hE P "_law_walked" 698 (.ref 365)::hE P "_law_paper" 713 (.ref 372)::hE P "law" 719 (.ref 377)::[]).toArray 59,#[]⟩) ::
 (nat_lit 25,hC "__init__" "Classes.__init__" 201 4 2 3 22 23 .none .none 24 204 205) ::
 (nat_lit 26,hF "__init__" "Classes.__init__" x_r .none .none .none (hS "lampforge.classes" 187) none (.ref 25) .none) ::
 (nat_lit 32,hC "least" "Classes.least" 207 7 2 3 27 28 (.ref 29) (.ref 30) 31 215 216) ::
 (nat_lit 33,hF "least" "Classes.least" x_l .none .none .none (hS "lampforge.classes" 187) none (.ref 32) .none) ::
 (nat_lit 39,hC "alike" "Classes.alike" 218 17 3 3 34 35 (.ref 36) (.ref 37) 38 224 225) ::
 (nat_lit 40,hF "alike" "Classes.alike" x_k .none .none .none (hS "lampforge.classes" 187) none (.ref 39) .none) ::
 (nat_lit 46,hC "join" "Classes.join" 227 20 3 3 41 42 (.ref 43) (.ref 44) 45 235 236) ::
 (nat_lit 47,hF "join" "Classes.join" x_s .none .none .none (hS "lampforge.classes" 187) none (.ref 46) .none) ::
 (nat_lit 48,⟨(.type "tuple"),none,.seq [(hS "lesser" 238)].toArray 0,#[]⟩) ::
 (nat_lit 49,⟨(.type "dict"),none,.dict (hE P "__module__" 196 (hS "lampforge.classes" 187)::hE P "__firstlineno__" 200 (.int 2 199)::hE P "__init__" 206 (.ref 26)::hE P "least" 217 (.ref 33)::hE P "alike" 226 (.ref 40)::hE P "join" 237 (.ref 47)::hE P "__static_attributes__" 239 (.ref 48)::hE P "__dict__" 241 (.ref 51)::hE P "__weakref__" 243 (.ref 52)::hE P "__doc__" 244 .none::[]).toArray 4,#[]⟩) ::
 (nat_lit 50,⟨(.type "type"),none,.cls { name := "Classes",bases:=[(.type "object")],mro:=[(.ref 50),(.type "object")],ns:=49,qualname := "Classes",hasDict:=true,subclasses:=[],abstract:=false,hasDel:=false },#[none,none,some (hS "Classes" 189),some (hS "Classes" 197),some (.builtin "object.__new__"),some (.bool true)]⟩) ::
 (nat_lit 51,⟨(.type "getset_descriptor"),none,.fields [(hS "__dict__" 240),(.ref 50),(.builtin "function.__dict__"),(.builtin "function.__dict__#set")].toArray,#[]⟩) ::
 (nat_lit 52,⟨(.type "getset_descriptor"),none,.fields [(hS "__weakref__" 242),(.ref 50),(.builtin "ExceptionGroup.__weakref__"),.none].toArray,#[]⟩) ::
 (nat_lit 62,⟨(.type "tuple"),none,.seq [].toArray 0,#[]⟩) ::
 (nat_lit 63,⟨(.type "dict"),none,.dict (hE P "__module__" 256 (hS "lampforge.errors" 247)::hE P "__firstlineno__" 260 (.int 30 259)::hE P "__static_attributes__" 261 (.ref 62)::hE P "__weakref__" 263 (.ref 65)::hE P "__doc__" 264 .none::[]).toArray 3,#[]⟩) ::
 (nat_lit 64,⟨(.type "type"),none,.cls { name := "ForgeError",bases:=[(.type "ValueError")],mro:=[(.ref 64),(.type "ValueError"),(.type "Exception"),(.type "BaseException"),(.type "object")],ns:=63,qualname := "ForgeError",hasDict:=true,subclasses:=[(.ref 77),(.ref 96)],abstract:=false,hasDel:=false },#[some (.ref 55),none,some (hS "ForgeError" 249),some (hS "ForgeError" 257),some (.builtin "ValueError.__new__"),some (.bool true)]⟩) ::
 (nat_lit 65,⟨(.type "getset_descriptor"),none,.fields [(hS "__weakref__" 262),(.ref 64),(.builtin "ExceptionGroup.__weakref__"),.none].toArray,#[]⟩) ::
 (nat_lit 75,⟨(.type "tuple"),none,.seq [].toArray 0,#[]⟩) ::
 (nat_lit 76,⟨(.type "dict"),none,.dict (hE P "__module__" 274 (hS "lampforge.errors" 247)::hE P "__firstlineno__" 278 (.int 32 277)::hE P "__static_attributes__" 279 (.ref 75)::hE P "__doc__" 280 .none::[]).toArray 2,#[]⟩) ::
 (nat_lit 77,⟨(.type "type"),none,.cls { name := "NoPair",bases:=[(.ref 64)],mro:=[(.ref 77),(.ref 64),(.type "ValueError"),(.type "Exception"),(.type "BaseException"),(.type "object")],ns:=76,qualname := "NoPair",hasDict:=true,subclasses:=[],abstract:=false,hasDel:=false },#[some (.ref 68),none,some (hS "NoPair" 267),some (hS "NoPair" 275),some (.builtin "ValueError.__new__"),some (.bool true)]⟩) ::
 (nat_lit 92,hC "__init__" "NoPaper.__init__" 295 36 3 3 87 88 (.ref 89) (.ref 90) 91 301 302) ::
 (nat_lit 93,hF "__init__" "NoPaper.__init__" t_g .none .none .none (hS "lampforge.errors" 247) none (.ref 92) .none) ::
 (nat_lit 94,⟨(.type "tuple"),none,.seq [(hS "at" 304),(hS "where" 305)].toArray 0,#[]⟩) ::
 (nat_lit 95,⟨(.type "dict"),none,.dict (hE P "__module__" 290 (hS "lampforge.errors" 247)::hE P "__firstlineno__" 294 (.int 34 293)::hE P "__init__" 303 (.ref 93)::hE P "__static_attributes__" 306 (.ref 94)::hE P "__doc__" 307 .none::[]).toArray 2,#[]⟩) ::
 (nat_lit 96,⟨(.type "type"),none,.cls { name := "NoPaper",bases:=[(.ref 64)],mro:=[(.ref 96),(.ref 64),(.type "ValueError"),(.type "Exception"),(.type "BaseException"),(.type "object")],ns:=95,qualname := "NoPaper",hasDict:=true,subclasses:=[],abstract:=false,hasDel:=false },#[some (.ref 80),none,some (hS "NoPaper" 283),some (hS "NoPaper" 291),some (.builtin "ValueError.__new__"),some (.bool true)]⟩) ::
 (nat_lit 104,hC "now_net" "now_net" 312 41 1 3 99 100 (.ref 101) (.ref 102) 103 316 317) ::
 (nat_lit 105,hF "now_net" "now_net" u_t .none .none .none (hS "lampforge.nets" 310) none (.ref 104) .none) ::
 (nat_lit 109,hC "start_net" "start_net" 319 43 1 3 106 107 .none .none 108 322 323) ::
 (nat_lit 110,hF "start_net" "start_net" v_b .none .none .none (hS "lampforge.nets" 310) none (.ref 109) .none) ::
 (nat_lit 114,hC "next_net" "next_net" 325 45 1 3 111 112 .none .none 113 328 329) ::
 (nat_lit 115,hF "next_net" "next_net" v_v .none .none .none (hS "lampforge.nets" 310) none (.ref 114) .none) ::
 (nat_lit 121,hC "start_end" "start_end" 331 49 2 3 116 117 (.ref 118) (.ref 119) 120 337 338) ::
 (nat_lit 122,hF "start_end" "start_end" v_a .none .none .none (hS "lampforge.nets" 310) none (.ref 121) .none) ::
 (nat_lit 128,hC "now_end" "now_end" 340 56 2 3 123 124 (.ref 125) (.ref 126) 127 345 346) ::
 (nat_lit 129,hF "now_end" "now_end" u_s .none .none .none (hS "lampforge.nets" 310) none (.ref 128) .none) ::
 (nat_lit 135,hC "then_end" "then_end" 348 60 2 3 130 131 (.ref 132) (.ref 133) 134 354 355) ::
 (nat_lit 136,hF "then_end" "then_end" v_w .none .none .none (hS "lampforge.nets" 310) none (.ref 135) .none) ::
 (nat_lit 142,hC "is_whole" "is_whole" 359 70 1 3 137 138 (.ref 139) (.ref 140) 141 363 364) ::
 (nat_lit 143,hF "is_whole" "is_whole" v_s .none .none .none (hS "lampforge.words" 357) none (.ref 142) .none) ::
 (nat_lit 149,hC "is_between" "is_between" 366 72 3 3 144 145 (.ref 146) (.ref 147) 148 372 373) ::
 (nat_lit 150,hF "is_between" "is_between" w_f .none .none .none (hS "lampforge.words" 357) none (.ref 149) .none) ::
 (nat_lit 154,hC "all_stands" "all_stands" 377 75 1 3 151 152 .none .none 153 380 381) ::
 (nat_lit 155,hF "all_stands" "all_stands" w_d .none .none .none (hS "lampforge.many" 375) none (.ref 154) .none) ::
 (nat_lit 161,hC "knots_in" "knots_in" 385 86 1 3 156 157 (.ref 158) (.ref 159) 160 389 390) ::
 (nat_lit 162,hF "knots_in" "knots_in" v_t .none .none .none (hS "lampforge.works" 383) none (.ref 161) .none) ::
 (nat_lit 168,hC "is_end" "is_end" 392 88 2 3 163 164 (.ref 165) (.ref 166) 167 397 398) ::
 (nat_lit 169,hF "is_end" "is_end" t_w .none .none .none (hS "lampforge.works" 383) none (.ref 168) .none) ::
 (nat_lit 175,hC "is_pair" "is_pair" 400 90 2 3 170 171 (.ref 172) (.ref 173) 174 405 406) ::
 (nat_lit 176,hF "is_pair" "is_pair" u_q .none .none .none (hS "lampforge.works" 383) none (.ref 175) .none) ::
 (nat_lit 180,hC "beside" "beside" 408 92 2 3 177 178 .none .none 179 411 412) ::
 (nat_lit 181,hF "beside" "beside" t_v .none .none .none (hS "lampforge.works" 383) none (.ref 180) .none) ::
 (nat_lit 187,hC "first_end" "first_end" 414 100 3 3 182 183 (.ref 184) (.ref 185) 186 420 421) ::
 (nat_lit 188,hF "first_end" "first_end" w_x .none .none .none (hS "lampforge.works" 383) none (.ref 187) .none) ::
 (nat_lit 194,hC "second_end" "second_end" 423 104 3 3 189 190 (.ref 191) (.ref 192) 193 429 430) ::
 (nat_lit 195,hF "second_end" "second_end" w_i .none .none .none (hS "lampforge.works" 383) none (.ref 194) .none) ::
 (nat_lit 196,⟨(.type "dict"),none,.dict (hE P "stands" 434 (.int 6 435)::hE P "row" 436 (.int 64 437)::[]).toArray 2,#[]⟩) ::
 (nat_lit 202,hC "is_good" "is_good" 443 113 3 3 197 198 (.ref 199) (.ref 200) 201 450 451) ::
 (nat_lit 203,hF "is_good" "is_good" u_p .none .none .none (hS "lampforge.steps" 432) none (.ref 202) .none) ::
 (nat_lit 207,hC "is_step" "is_step" 453 121 3 3 204 205 .none .none 206 456 457) ::
 (nat_lit 208,hF "is_step" "is_step" u_r .none .none .none (hS "lampforge.steps" 432) none (.ref 207) .none) ::
 (nat_lit 214,hC "bits_of_both" "bits_of_both" 459 131 3 3 209 210 (.ref 211) (.ref 212) 213 471 472) ::
 (nat_lit 215,hF "bits_of_both" "bits_of_both" y_f .none .none .none (hS "lampforge.steps" 432) none (.ref 214) .none) ::
 (nat_lit 221,hC "both_bits" "both_bits" 474 142 2 3 216 217 (.ref 218) (.ref 219) 220 479 480) ::
 (nat_lit 222,hF "both_bits" "both_bits" w_w .none .none .none (hS "lampforge.steps" 432) none (.ref 221) .none) ::
 (nat_lit 228,hC "sets_of_both" "sets_of_both" 482 144 3 3 223 224 (.ref 225) (.ref 226) 227 491 492) ::
 (nat_lit 229,hF "sets_of_both" "sets_of_both" y_i .none .none .none (hS "lampforge.steps" 432) none (.ref 228) .none) ::
 (nat_lit 235,hC "both_sets" "both_sets" 494 152 2 3 230 231 (.ref 232) (.ref 233) 234 501 502) ::
 (nat_lit 236,hF "both_sets" "both_sets" u_d .none .none .none (hS "lampforge.steps" 432) none (.ref 235) .none) ::
 (nat_lit 240,hC "found_of" "found_of" 504 160 6 3 237 238 .none .none 239 507 508) ::
 (nat_lit 241,hF "found_of" "found_of" v_r .none .none .none (hS "lampforge.steps" 432) none (.ref 240) .none) ::
 (nat_lit 247,hC "below" "below" 510 176 2 3 242 243 (.ref 244) (.ref 245) 246 515 516) ::
 (nat_lit 248,hF "below" "below" r_u .none .none .none (hS "lampforge.steps" 432) none (.ref 247) .none) ::
 (nat_lit 252,hC "look_paper" "look_paper" 520 179 3 3 249 250 .none .none 251 523 524) ::
 (nat_lit 253,hF "look_paper" "look_paper" w_h .none .none .none (hS "lampforge.papers" 518) none (.ref 252) .none) ::
 (nat_lit 259,hC "look_starts" "look_starts" 526 189 3 3 254 255 (.ref 256) (.ref 257) 258 535 536) ::
 (nat_lit 260,hF "look_starts" "look_starts" x_x .none .none .none (hS "lampforge.papers" 518) none (.ref 259) .none) ::
 (nat_lit 266,hC "look_nexts" "look_nexts" 538 195 3 3 261 262 (.ref 263) (.ref 264) 265 549 550) ::
 (nat_lit 267,hF "look_nexts" "look_nexts" w_g .none .none .none (hS "lampforge.papers" 518) none (.ref 266) .none) ::
 (nat_lit 273,hC "look_nows" "look_nows" 552 204 4 3 268 269 (.ref 270) (.ref 271) 272 562 563) ::
 (nat_lit 274,hF "look_nows" "look_nows" w_y .none .none .none (hS "lampforge.papers" 518) none (.ref 273) .none) ::
 (nat_lit 280,hC "classes_of" "classes_of" 565 212 1 3 275 276 (.ref 277) (.ref 278) 279 569 570) ::
 (nat_lit 281,hF "classes_of" "classes_of" w_e .none .none .none (hS "lampforge.papers" 518) none (.ref 280) .none) ::
 (nat_lit 287,hC "take_steps" "take_steps" 572 214 4 3 282 283 (.ref 284) (.ref 285) 286 581 582) ::
 (nat_lit 288,hF "take_steps" "take_steps" w_j .none .none .none (hS "lampforge.papers" 518) none (.ref 287) .none) ::
 (nat_lit 294,hC "look_pair" "look_pair" 584 218 2 3 289 290 (.ref 291) (.ref 292) 293 589 590) ::
 (nat_lit 295,hF "look_pair" "look_pair" w_z .none .none .none (hS "lampforge.papers" 518) none (.ref 294) .none) ::
 (nat_lit 299,hC "look_two" "look_two" 592 221 3 3 296 297 .none .none 298 595 596) ::
 (nat_lit 300,hF "look_two" "look_two" v_u .none .none .none (hS "lampforge.papers" 518) none (.ref 299) .none) ::
 (nat_lit 306,hC "_law_row" "_law_row" 600 226 3 3 301 302 (.ref 303) (.ref 304) 305 612 613) ::
 (nat_lit 307,hF "_law_row" "_law_row" r_t .none .none .none (hS "law_lampforge_k39_papers_by_hand" 598) none (.ref 306) .none) ::
 (nat_lit 313,hC "_law_size" "_law_size" 615 242 2 3 308 309 (.ref 310) (.ref 311) 312 620 621) ::
 (nat_lit 314,hF "_law_size" "_law_size" t_s .none .none .none (hS "law_lampforge_k39_papers_by_hand" 598) none (.ref 313) .none) ::
 (nat_lit 318,hC "_law_work" "_law_work" 623 244 2 3 315 316 .none .none 317 626 627) ::
 (nat_lit 319,hF "_law_work" "_law_work" t_u .none .none .none (hS "law_lampforge_k39_papers_by_hand" 598) none (.ref 318) .none) ::
 (nat_lit 325,hC "_law_end" "_law_end" 629 254 2 3 320 321 (.ref 322) (.ref 323) 324 634 635) ::
 (nat_lit 326,hF "_law_end" "_law_end" r_s .none .none .none (hS "law_lampforge_k39_papers_by_hand" 598) none (.ref 325) .none) ::
 (nat_lit 330,hC "_law_swapped" "_law_swapped" 637 256 2 3 327 328 .none .none 329 640 641) ::
 (nat_lit 331,hF "_law_swapped" "_law_swapped" w_v .none .none .none (hS "law_lampforge_k39_papers_by_hand" 598) none (.ref 330) .none) ::
 (nat_lit 335,hC "_law_joined" "_law_joined" 643 258 3 3 332 333 .none .none 334 646 647) ::
 (nat_lit 336,hF "_law_joined" "_law_joined" v_o .none .none .none (hS "law_lampforge_k39_papers_by_hand" 598) none (.ref 335) .none) ::
 (nat_lit 340,hC "_law_nets" "_law_nets" 649 263 1 3 337 338 .none .none 339 652 653) ::
 (nat_lit 341,hF "_law_nets" "_law_nets" t_r .none .none .none (hS "law_lampforge_k39_papers_by_hand" 598) none (.ref 340) .none) ::
 (nat_lit 345,hC "_law_twin" "_law_twin" 655 275 2 3 342 343 .none .none 344 658 659) ::
 (nat_lit 346,hF "_law_twin" "_law_twin" t_t .none .none .none (hS "law_lampforge_k39_papers_by_hand" 598) none (.ref 345) .none) ::
 (nat_lit 350,hC "_law_joint" "_law_joint" 661 287 2 3 347 348 .none .none 349 664 665) ::
 (nat_lit 351,hF "_law_joint" "_law_joint" u_n .none .none .none (hS "law_lampforge_k39_papers_by_hand" 598) none (.ref 350) .none) ::
 (nat_lit 357,hC "_law_leaves" "_law_leaves" 667 301 2 3 352 353 (.ref 354) (.ref 355) 356 675 676) ::
 (nat_lit 358,hF "_law_leaves" "_law_leaves" v_p .none .none .none (hS "law_lampforge_k39_papers_by_hand" 598) none (.ref 357) .none) ::
 (nat_lit 364,hC "_law_walked" "_law_walked" 678 309 6 3 359 360 (.ref 361) (.ref 362) 363 696 697) ::
 (nat_lit 365,hF "_law_walked" "_law_walked" v_q .none .none .none (hS "law_lampforge_k39_papers_by_hand" 598) none (.ref 364) .none) ::
 (nat_lit 371,hC "_law_paper" "_law_paper" 699 323 3 3 366 367 (.ref 368) (.ref 369) 370 711 712) ::
 (nat_lit 372,hF "_law_paper" "_law_paper" u_o .none .none .none (hS "law_lampforge_k39_papers_by_hand" 598) none (.ref 371) .none) ::
 (nat_lit 376,hC "law" "law" 714 331 1 3 373 374 .none .none 375 717 718) ::
 (nat_lit 377,hF "law" "law" f_a .none .none .none (hS "law_lampforge_k39_papers_by_hand" 598) none (.ref 376) .none)::[]
def hA:List Addr:=nat_lit 2::nat_lit 3::nat_lit 25::nat_lit 26::nat_lit 32::nat_lit 33::nat_lit 39::nat_lit 40::nat_lit 46::nat_lit 47::nat_lit 48::nat_lit 49::nat_lit 50::nat_lit 51::nat_lit 52::nat_lit 62::nat_lit 63::nat_lit 64::nat_lit 65::nat_lit 75::nat_lit 76::nat_lit 77::nat_lit 92::nat_lit 93::nat_lit 94::nat_lit 95::nat_lit 96::nat_lit 104::nat_lit 105::nat_lit 109::nat_lit 110::nat_lit 114::nat_lit 115::nat_lit 121::nat_lit 122::nat_lit 128::nat_lit 129::nat_lit 135::nat_lit 136::nat_lit 142::nat_lit 143::nat_lit 149::nat_lit 150::nat_lit 154::nat_lit 155::nat_lit 161::nat_lit 162::nat_lit 168::nat_lit 169::nat_lit 175::nat_lit 176::nat_lit 180::nat_lit 181::nat_lit 187::nat_lit 188::nat_lit 194::nat_lit 195::nat_lit 196::nat_lit 202::nat_lit 203::nat_lit 207::nat_lit 208::nat_lit 214::nat_lit 215::nat_lit 221::nat_lit 222::nat_lit 228::nat_lit 229::nat_lit 235::nat_lit 236::nat_lit 240::nat_lit 241::nat_lit 247::nat_lit 248::nat_lit 252::nat_lit 253::nat_lit 259::nat_lit 260::nat_lit 266::nat_lit 267::nat_lit 273::nat_lit 274::nat_lit 280::nat_lit 281::nat_lit 287::nat_lit 288::nat_lit 294::nat_lit 295::nat_lit 299::nat_lit 300::nat_lit 306::nat_lit 307::nat_lit 313::nat_lit 314::nat_lit 318::nat_lit 319::nat_lit 325::nat_lit 326::nat_lit 330::nat_lit 331::nat_lit 335::nat_lit 336::nat_lit 340::nat_lit 341::nat_lit 345::nat_lit 346::nat_lit 350::nat_lit 351::nat_lit 357::nat_lit 358::nat_lit 364::nat_lit 365::nat_lit 371::nat_lit 372::nat_lit 376::nat_lit 377::[]
def hV:Program:={ PySem.Challenge.pw_lampforge_k39_papers_by_hand with main:={ PySem.Challenge.pw_lampforge_k39_papers_by_hand.main with body:=[top 1,top 3,top 4,top 5,top 7,top 8,top 9,top 10,top 11,top 12,top 14,top 15,top 17,top 19,top 20,top 21,top 22,top 23,top 24,top 26,top 27,top 28,top 29,top 30,top 31,top 32,top 33,top 34,top 35,top 37,top 38,top 39,top 40,top 41,top 42,top 43,top 44,top 46,top 47,top 48,top 49,top 50,top 51,top 52,top 53,top 54,top 55,top 56,top 57,top 58] } }
abbrev hL:List Str:=[Str.ofString "MOST_LEAVES"]
theorem hQ:∀ P,hA=(hK P).map (·.1):=fun _=>by kernel_rfl
set_option maxRecDepth 100000 in
set_option maxHeartbeats 0 in
theorem hSaid:PySem.Challenge.rw_lampforge_k39_papers_by_hand.wellSaid=true:=by kernel_rfl
abbrev hR(n q:String)(st:Stmt):Obj:=⟨.none,none,.func { fnOf n q (v_h st) (w_k st) (z_p st) .none .none .none .none none .none .none with globals:=0 },#[]⟩
abbrev hr(n:String)(st:Stmt):Obj:=hR n n st
abbrev yT(xs:List Value):Obj:=⟨.type "tuple",none,.seq xs.toArray 0,#[]⟩
abbrev yN(xs:List Value):Obj:=⟨.none,none,.fields xs.toArray,#[]⟩
def yS:Nat->List String->List Value
 | _,[]=>[]
 | t,x::r=>hS x t::yS (t+1) r
abbrev pP:Program:=PySem.Challenge.pw_lampforge_k39_papers_by_hand
def mrg:Nat->List (Nat×Obj)->List (Nat×Obj)->List Obj
 | n+1,(a,x)::r,(b,y)::s=>match Nat.blt a b with
  | true=>x::mrg n r ((b,y)::s)
  | false=>y::mrg n ((a,x)::r) s
 | n+1,[],(_,y)::s=>y::mrg n [] s
 | n+1,(_,x)::r,[]=>x::mrg n r []
 | _,_,_=>[]
def evs:List Obj->List Obj
 | a::_::r=>a::evs r
 | l=>l
def mkT:Nat->List Obj->PySem.W.BT
 | n+1,x::r=>.node x (mkT n (evs r)) (mkT n (evs r.tail))
 | _,_=>.nil
def dEs:Option Obj->List DictEntry
 | some o=>match o.data with
  | .dict es _=>es.toList
  | _=>[]
 | none=>[]
def fEs:Option Obj->List Value
 | some o=>match o.data with
  | .fields es=>es.toList
  | _=>[]
 | none=>[]
noncomputable def hX:Params->PySem.W.Frag:=fun P =>
 (0,PySem.W.boot_o_0 P) ::
 (1,PySem.W.boot_o_1 P) ::
 (4,PySem.W.boot_o_4 P) ::
 (5,PySem.W.boot_o_5 P) ::
 (6,PySem.W.boot_o_6 P) ::
 (7,PySem.W.boot_o_7 P) ::
 (8,PySem.W.boot_o_8 P) ::
 (9,PySem.W.boot_o_9 P) ::
 (10,PySem.W.boot_o_10 P) ::
 (11,yT []) ::
 (12,yN [(.int 2 0),(.int 0 0),(.ref 20),(.int 30 0),(.int 0 0),(.ref 60),(.int 32 0),(.int 0 0),(.ref 73),(.int 34 0),(.int 0 0),(.ref 85),(.int 41 0),(.int 0 0),(.ref 104),(.int 43 0),(.int 0 0),(.ref 109),(.int 45 0),(.int 0 0),(.ref 114),(.int 49 0),(.int 0 0),(.ref 121),(.int 56 0),(.int 0 0),(.ref 128),(.int 60 0),(.int 0 0),(.ref 135),(.int 70 0),(.int 0 0),(.ref 142),(.int 72 0),(.int 0 0),(.ref 149),(.int 75 0),(.int 0 0),(.ref 154),(.int 86 0),(.int 0 0),(.ref 161),(.int 88 0),(.int 0 0),(.ref 168),(.int 90 0),(.int 0 0),(.ref 175),(.int 92 0),(.int 0 0),(.ref 180),(.int 100 0),(.int 0 0),(.ref 187),(.int 104 0),(.int 0 0),(.ref 194),(.int 113 0),(.int 0 0),(.ref 202),(.int 121 0),(.int 0 0),(.ref 207),(.int 131 0),(.int 0 0),(.ref 214),(.int 142 0),(.int 0 0),(.ref 221),(.int 144 0),(.int 0 0),(.ref 228),(.int 152 0),(.int 0 0),(.ref 235),(.int 160 0),(.int 0 0),(.ref 240),(.int 176 0),(.int 0 0),(.ref 247),(.int 179 0),(.int 0 0),(.ref 252),(.int 189 0),(.int 0 0),(.ref 259),(.int 195 0),(.int 0 0),(.ref 266),(.int 204 0),(.int 0 0),(.ref 273),(.int 212 0),(.int 0 0),(.ref 280),(.int 214 0),(.int 0 0),(.ref 287),(.int 218 0),(.int 0 0),(.ref 294),(.int 221 0),(.int 0 0),(.ref 299),(.int 226 0),(.int 0 0),(.ref 306),(.int 242 0),(.int 0 0),(.ref 313),(.int 244 0),(.int 0 0),(.ref 318),(.int 254 0),(.int 0 0),(.ref 325),(.int 256 0),(.int 0 0),(.ref 330),(.int 258 0),(.int 0 0),(.ref 335),(.int 263 0),(.int 0 0),(.ref 340),(.int 275 0),(.int 0 0),(.ref 345),(.int 287 0),(.int 0 0),(.ref 350),(.int 301 0),(.int 0 0),(.ref 357),(.int 309 0),(.int 0 0),(.ref 364),(.int 323 0),(.int 0 0),(.ref 371),(.int 331 0),(.int 0 0),(.ref 376)]) ::
 (13,⟨(.type "code"),none,.fields [(hS "<module>" 182),(hS "<module>" 183),(hS "/claim/cut.py" 184),(.int 1 0),(.int 0 0),(.int 0 0),(.int 0 0),(.int 0 0),(.ref 11),(.bool false),(.int 181 0),(.ref 12),.none,.none,.none,.none,(.int 185 0),(.int 1 0),(hS "/claim/cut.py" 186)].toArray,#[]⟩) ::
 (14,⟨(.type "frame"),none,.plain,#[some (.ref 13),some (.ref 3),some (.ref 3),none,some (hS "__main__" 164),none,some (.ref 0)]⟩) ::
 (15,yT []) ::
 (16,⟨(.type "builtin_function_or_method"),none,.fields [(.builtin "type.__prepare__"),(.type "type")].toArray,#[]⟩) ::
 (17,⟨(.type "dict"),none,.dict (hE P "__module__" 196 (hS "lampforge.classes" 187)::hE P "__qualname__" 198 (hS "Classes" 197)::hE P "__firstlineno__" 200 (.int 2 199)::hE P "__init__" 206 (.ref 26)::hE P "least" 217 (.ref 33)::hE P "alike" 226 (.ref 40)::hE P "join" 237 (.ref 47)::hE P "__static_attributes__" 239 (.ref 48)::[]).toArray 8,#[]⟩) ::
 (18,yT []) ::
 (19,yN [(.int 4 0),(.int 4 0),(.ref 25),(.int 7 0),(.int 4 0),(.ref 32),(.int 17 0),(.int 4 0),(.ref 39),(.int 20 0),(.int 4 0),(.ref 46)]) ::
 (20,⟨(.type "code"),none,.fields [(hS "Classes" 191),(hS "Classes" 192),(hS "/claim/cut.py" 193),(.int 2 0),(.int 0 0),(.int 0 0),(.int 0 0),(.int 0 0),(.ref 18),(.bool false),(.int 181 0),(.ref 19),.none,.none,.none,.none,(.int 194 0),(.int 2 0),(hS "/claim/cut.py" 195)].toArray,#[]⟩) ::
 (21,⟨(.type "frame"),none,.plain,#[some (.ref 20),some (.ref 3),some (.ref 17),none,some (hS "lampforge.classes" 187),none,some (.ref 0)]⟩) ::
 (22,yT []) ::
 (23,yN []) ::
 (24,hR "__init__" "Classes.__init__" x_r) ::
 (27,yT []) ::
 (28,yN []) ::
 (29,yT (yS 210 ["self", "end", "lesser", "way", "passed"])) ::
 (30,yT []) ::
 (31,hR "least" "Classes.least" x_l) ::
 (34,yT []) ::
 (35,yN []) ::
 (36,yT (yS 221 ["self", "one", "other"])) ::
 (37,yT []) ::
 (38,hR "alike" "Classes.alike" x_k) ::
 (41,yT []) ::
 (42,yN []) ::
 (43,yT (yS 230 ["self", "one", "other", "low", "high"])) ::
 (44,yT []) ::
 (45,hR "join" "Classes.join" x_s) ::
 (53,⟨(.type "super"),none,.fields [(.ref 50),(.ref 50),(.ref 50)].toArray,#[]⟩) ::
 (54,⟨(.type "builtin_function_or_method"),none,.fields [(.builtin "object.__init_subclass__"),(.ref 50)].toArray,#[]⟩) ::
 (55,yT [(.type "ValueError")]) ::
 (56,⟨(.type "builtin_function_or_method"),none,.fields [(.builtin "type.__prepare__"),(.type "type")].toArray,#[]⟩) ::
 (57,⟨(.type "dict"),none,.dict (hE P "__module__" 256 (hS "lampforge.errors" 247)::hE P "__qualname__" 258 (hS "ForgeError" 257)::hE P "__firstlineno__" 260 (.int 30 259)::hE P "__static_attributes__" 261 (.ref 62)::[]).toArray 4,#[]⟩) ::
 (58,yT []) ::
 (59,yN []) ::
 (60,⟨(.type "code"),none,.fields [(hS "ForgeError" 251),(hS "ForgeError" 252),(hS "/claim/cut.py" 253),(.int 30 0),(.int 0 0),(.int 0 0),(.int 0 0),(.int 0 0),(.ref 58),(.bool false),(.int 181 0),(.ref 59),.none,.none,.none,.none,(.int 254 0),(.int 30 0),(hS "/claim/cut.py" 255)].toArray,#[]⟩) ::
 (61,⟨(.type "frame"),none,.plain,#[some (.ref 60),some (.ref 3),some (.ref 57),none,some (hS "lampforge.errors" 247),none,some (.ref 0)]⟩) ::
 (66,⟨(.type "super"),none,.fields [(.ref 64),(.ref 64),(.ref 64)].toArray,#[]⟩) ::
 (67,⟨(.type "builtin_function_or_method"),none,.fields [(.builtin "object.__init_subclass__"),(.ref 64)].toArray,#[]⟩) ::
 (68,yT [(.ref 64)]) ::
 (69,⟨(.type "builtin_function_or_method"),none,.fields [(.builtin "type.__prepare__"),(.type "type")].toArray,#[]⟩) ::
 (70,⟨(.type "dict"),none,.dict (hE P "__module__" 274 (hS "lampforge.errors" 247)::hE P "__qualname__" 276 (hS "NoPair" 275)::hE P "__firstlineno__" 278 (.int 32 277)::hE P "__static_attributes__" 279 (.ref 75)::[]).toArray 4,#[]⟩) ::
 (71,yT []) ::
 (72,yN []) ::
 (73,⟨(.type "code"),none,.fields [(hS "NoPair" 269),(hS "NoPair" 270),(hS "/claim/cut.py" 271),(.int 32 0),(.int 0 0),(.int 0 0),(.int 0 0),(.int 0 0),(.ref 71),(.bool false),(.int 181 0),(.ref 72),.none,.none,.none,.none,(.int 272 0),(.int 32 0),(hS "/claim/cut.py" 273)].toArray,#[]⟩) ::
 (74,⟨(.type "frame"),none,.plain,#[some (.ref 73),some (.ref 3),some (.ref 70),none,some (hS "lampforge.errors" 247),none,some (.ref 0)]⟩) ::
 (78,⟨(.type "super"),none,.fields [(.ref 77),(.ref 77),(.ref 77)].toArray,#[]⟩) ::
 (79,⟨(.type "builtin_function_or_method"),none,.fields [(.builtin "object.__init_subclass__"),(.ref 77)].toArray,#[]⟩) ::
 (80,yT [(.ref 64)]) ::
 (81,⟨(.type "builtin_function_or_method"),none,.fields [(.builtin "type.__prepare__"),(.type "type")].toArray,#[]⟩) ::
 (82,⟨(.type "dict"),none,.dict (hE P "__module__" 290 (hS "lampforge.errors" 247)::hE P "__qualname__" 292 (hS "NoPaper" 291)::hE P "__firstlineno__" 294 (.int 34 293)::hE P "__init__" 303 (.ref 93)::hE P "__static_attributes__" 306 (.ref 94)::[]).toArray 5,#[]⟩) ::
 (83,yT []) ::
 (84,yN [(.int 36 0),(.int 4 0),(.ref 92)]) ::
 (85,⟨(.type "code"),none,.fields [(hS "NoPaper" 285),(hS "NoPaper" 286),(hS "/claim/cut.py" 287),(.int 34 0),(.int 0 0),(.int 0 0),(.int 0 0),(.int 0 0),(.ref 83),(.bool false),(.int 181 0),(.ref 84),.none,.none,.none,.none,(.int 288 0),(.int 34 0),(hS "/claim/cut.py" 289)].toArray,#[]⟩) ::
 (86,⟨(.type "frame"),none,.plain,#[some (.ref 85),some (.ref 3),some (.ref 82),none,some (hS "lampforge.errors" 247),none,some (.ref 0)]⟩) ::
 (87,yT []) ::
 (88,yN []) ::
 (89,yT (yS 298 ["self", "where", "at"])) ::
 (90,yT []) ::
 (91,hR "__init__" "NoPaper.__init__" t_g) ::
 (97,⟨(.type "super"),none,.fields [(.ref 96),(.ref 96),(.ref 96)].toArray,#[]⟩) ::
 (98,⟨(.type "builtin_function_or_method"),none,.fields [(.builtin "object.__init_subclass__"),(.ref 96)].toArray,#[]⟩) ::
 (99,yT []) ::
 (100,yN []) ::
 (101,yT (yS 315 ["work"])) ::
 (102,yT []) ::
 (103,hr "now_net" u_t) ::
 (106,yT []) ::
 (107,yN []) ::
 (108,hr "start_net" v_b) ::
 (111,yT []) ::
 (112,yN []) ::
 (113,hr "next_net" v_v) ::
 (116,yT []) ::
 (117,yN []) ::
 (118,yT (yS 334 ["work", "end", "box"])) ::
 (119,yT []) ::
 (120,hr "start_end" v_a) ::
 (123,yT []) ::
 (124,yN []) ::
 (125,yT (yS 343 ["work", "end"])) ::
 (126,yT []) ::
 (127,hr "now_end" u_s) ::
 (130,yT []) ::
 (131,yN []) ::
 (132,yT (yS 351 ["work", "end", "box"])) ::
 (133,yT []) ::
 (134,hr "then_end" v_w) ::
 (137,yT []) ::
 (138,yN []) ::
 (139,yT (yS 362 ["thing"])) ::
 (140,yT []) ::
 (141,hr "is_whole" v_s) ::
 (144,yT []) ::
 (145,yN []) ::
 (146,yT (yS 369 ["thing", "low", "high"])) ::
 (147,yT []) ::
 (148,hr "is_between" w_f) ::
 (151,yT []) ::
 (152,yN []) ::
 (153,hr "all_stands" w_d) ::
 (156,yT []) ::
 (157,yN []) ::
 (158,yT (yS 388 ["work"])) ::
 (159,yT []) ::
 (160,hr "knots_in" v_t) ::
 (163,yT []) ::
 (164,yN []) ::
 (165,yT (yS 395 ["thing", "knots"])) ::
 (166,yT []) ::
 (167,hr "is_end" t_w) ::
 (170,yT []) ::
 (171,yN []) ::
 (172,yT (yS 403 ["thing", "knots"])) ::
 (173,yT []) ::
 (174,hr "is_pair" u_q) ::
 (177,yT []) ::
 (178,yN []) ::
 (179,hr "beside" t_v) ::
 (182,yT []) ::
 (183,yN []) ::
 (184,yT (yS 417 ["one", "other", "end"])) ::
 (185,yT []) ::
 (186,hr "first_end" w_x) ::
 (189,yT []) ::
 (190,yN []) ::
 (191,yT (yS 426 ["one", "other", "end"])) ::
 (192,yT []) ::
 (193,hr "second_end" w_i) ::
 (197,yT []) ::
 (198,yN []) ::
 (199,yT (yS 446 ["net", "classes", "step", "found"])) ::
 (200,yT []) ::
 (201,hr "is_good" u_p) ::
 (204,yT []) ::
 (205,yN []) ::
 (206,hr "is_step" u_r) ::
 (209,yT []) ::
 (210,yN []) ::
 (211,yT (yS 462 ["net", "classes", "step", "stands", "given", "leaf", "bits", "turned"])) ::
 (212,yT (yS 470 ["high"])) ::
 (213,hr "bits_of_both" y_f) ::
 (216,yT []) ::
 (217,yN []) ::
 (218,yT (yS 477 ["one", "other"])) ::
 (219,yT []) ::
 (220,hr "both_bits" w_w) ::
 (223,yT []) ::
 (224,yN []) ::
 (225,yT (yS 485 ["net", "classes", "step", "given", "power", "leaf"])) ::
 (226,yT []) ::
 (227,hr "sets_of_both" y_i) ::
 (230,yT []) ::
 (231,yN []) ::
 (232,yT (yS 497 ["one", "other", "leaves", "contraries"])) ::
 (233,yT []) ::
 (234,hr "both_sets" u_d) ::
 (237,yT []) ::
 (238,yN []) ::
 (239,hr "found_of" v_r) ::
 (242,yT []) ::
 (243,yN []) ::
 (244,yT (yS 513 ["net", "end"])) ::
 (245,yT []) ::
 (246,hr "below" r_u) ::
 (249,yT []) ::
 (250,yN []) ::
 (251,hr "look_paper" w_h) ::
 (254,yT []) ::
 (255,yN []) ::
 (256,yT (yS 529 ["work", "kept", "steps", "classes", "one", "other"])) ::
 (257,yT []) ::
 (258,hr "look_starts" x_x) ::
 (261,yT []) ::
 (262,yN []) ::
 (263,yT (yS 541 ["work", "kept", "steps", "classes", "number", "pair", "one", "other"])) ::
 (264,yT []) ::
 (265,hr "look_nexts" w_g) ::
 (268,yT []) ::
 (269,yN []) ::
 (270,yT (yS 555 ["work", "kept", "goals", "steps", "classes", "one", "other"])) ::
 (271,yT []) ::
 (272,hr "look_nows" w_y) ::
 (275,yT []) ::
 (276,yN []) ::
 (277,yT (yS 568 ["net"])) ::
 (278,yT []) ::
 (279,hr "classes_of" w_e) ::
 (282,yT []) ::
 (283,yN []) ::
 (284,yT (yS 575 ["net", "classes", "steps", "where", "number", "step"])) ::
 (285,yT []) ::
 (286,hr "take_steps" w_j) ::
 (289,yT []) ::
 (290,yN []) ::
 (291,yT (yS 587 ["one", "other"])) ::
 (292,yT []) ::
 (293,hr "look_pair" w_z) ::
 (296,yT []) ::
 (297,yN []) ::
 (298,hr "look_two" v_u) ::
 (301,yT []) ::
 (302,yN []) ::
 (303,yT (yS 603 ["_law_script", "_law_at", "_law_many", "_law_cell", "_law_rest", "_law_great", "_law_row_here", "_law_k", "_law_one"])) ::
 (304,yT []) ::
 (305,hr "_law_row" r_t) ::
 (308,yT []) ::
 (309,yN []) ::
 (310,yT (yS 618 ["_law_number", "_law_many"])) ::
 (311,yT []) ::
 (312,hr "_law_size" t_s) ::
 (315,yT []) ::
 (316,yN []) ::
 (317,hr "_law_work" t_u) ::
 (320,yT []) ::
 (321,yN []) ::
 (322,yT (yS 632 ["_law_ends", "_law_end_here"])) ::
 (323,yT []) ::
 (324,hr "_law_end" r_s) ::
 (327,yT []) ::
 (328,yN []) ::
 (329,hr "_law_swapped" w_v) ::
 (332,yT []) ::
 (333,yN []) ::
 (334,hr "_law_joined" v_o) ::
 (337,yT []) ::
 (338,yN []) ::
 (339,hr "_law_nets" t_r) ::
 (342,yT []) ::
 (343,yN []) ::
 (344,hr "_law_twin" t_t) ::
 (347,yT []) ::
 (348,yN []) ::
 (349,hr "_law_joint" u_n) ::
 (352,yT []) ::
 (353,yN []) ::
 (354,yT (yS 670 ["_law_labels", "_law_pair", "_law_found", "_law_seen", "_law_end_here"])) ::
 (355,yT []) ::
 (356,hr "_law_leaves" v_p) ::
 (359,yT []) ::
 (360,yN []) ::
 (361,yT (yS 681 ["_law_one", "_law_rows", "_law_twin_here", "_law_net", "_law_goes", "_law_pairs", "_law_labels", "_law_a", "_law_b", "_law_steps", "_law_first", "_law_k", "_law_mine", "_law_yours", "_law_ends"])) ::
 (362,yT []) ::
 (363,hr "_law_walked" v_q) ::
 (366,yT []) ::
 (367,yN []) ::
 (368,yT (yS 702 ["_law_one", "_law_other", "_law_twin_here", "_law_joint_here", "_law_rows", "_law_nets_here", "_law_kept", "_law_k", "_law_nexts"])) ::
 (369,yT []) ::
 (370,hr "_law_paper" u_o) ::
 (373,yT []) ::
 (374,yN []) ::
 (375,hr "law" f_a)::[]
noncomputable def hW (P:Params):List Obj:=mrg 379 (hK P) (hX P)
noncomputable def HL (P:Params):Heap:={ objs:=(hW P).toArray,life:={} }
def eV:Env:={ scope:=pP.main.scope,locals:=mainNs,globals:=mainNs,cells:=[],code:=(.ref 13),frame:=some 14 }
def cD:Code:=.body (behindTheImports pP) eV
abbrev bP:List Frame:=[PySem.W.topFrame ⟨0,0,0,0⟩]
noncomputable abbrev g12 (P:Params):List Value:=fEs ((hW P)[12]?)
noncomputable abbrev g3 (P:Params):List DictEntry:=dEs ((hW P)[3]?)
noncomputable def w1 (P:Params):List Obj:=(((hW P).take 15).set 3 (PySem.W.boot_o_3 P)).set 12 ⟨.none,none,.fields ((g12 P).take 0).toArray,#[]⟩
noncomputable def w2 (P:Params):List Obj:=(((hW P).take 15).set 3 (PySem.W.boot_o_3 P)).set 12 ⟨.none,none,.fields ((g12 P).take 0).toArray,#[]⟩
noncomputable def w28 (P:Params):List Obj:=(((hW P).take 196).set 3 ⟨(.type "dict"),none,.dict (((g3 P).take 28).set 0 (hE P "__name__" 165 (hS "lampforge.steps" 432))).toArray 28,#[]⟩).set 12 ⟨.none,none,.fields ((g12 P).take 57).toArray,#[]⟩
noncomputable def w29 (P:Params):List Obj:=(((hW P).take 197).set 3 ⟨(.type "dict"),none,.dict (((g3 P).take 29).set 0 (hE P "__name__" 165 (hS "lampforge.steps" 432))).toArray 29,#[]⟩).set 12 ⟨.none,none,.fields ((g12 P).take 57).toArray,#[]⟩
noncomputable def w61 (P:Params):List Obj:=(hW P).take 378
theorem hOpen:∀ w:World,(PySem.W.fencedOpening treeTable pP w 4970).map (fun s=>(s.heap,s.gens,s.drawn,s.toks))=some (boot_heap w.params,Array.mk [],boot_drawn,boot_toks):=PySem.W.boot_open (by kernel_rfl) (by kernel_rfl) (fun s=>by kernel_rfl)
set_option maxRecDepth 100000 in
set_option maxHeartbeats 0 in
theorem hSize:∀ w:World,((boot_heap w.params).isNs mainGlobals&&(Array.mk []:Array GenState).size == 0,(boot_heap w.params).objs.size,(boot_heap w.params).nsMap mainGlobals (Str.ofString "__annotations__"))=(true,11,some (.ref 6)):=fun w=>by kernel_rfl
set_option maxRecDepth 100000 in
set_option maxHeartbeats 0 in
theorem hPre:∀ (w:World) (os:OsState),PySem.W.topGo treeTable pP w 11 (some (.ref 6)) 12 ⟨boot_heap w.params,Array.mk [],boot_drawn,boot_toks,os⟩ (PySem.W.topStub pP)=some (⟨{ objs:=(w1 w.params).toArray,life:={} },#[],⟨0,0,0,0⟩,187,os⟩,⟨denote treeTable cD,cD,⟨0,0,0,0⟩,bP⟩):=fun w os=>by kernel_rfl
set_option maxRecDepth 100000 in
set_option maxHeartbeats 0 in
theorem hBlk:∀ (w:World) (os:OsState),PySem.W.segRun treeTable pP w 11 (some (.ref 6)) 1 1 ⟨{ objs:=(w1 w.params).toArray,life:={} },#[],⟨0,0,0,0⟩,187,os⟩ (PySem.W.blockOf (behindTheImports pP) eV cD ⟨0,0,0,0⟩ bP)=some (.next,PySem.W.SharedT.abs ⟨mkT 20 (w2 w.params),15,{},#[],⟨0,0,0,0⟩,187,os⟩,cD,⟨0,0,0,0⟩):=fun w os=>by kernel_rfl
abbrev q0:List Stmt:=((behindTheImports pP).drop 0).take 26
set_option maxRecDepth 100000 in
set_option maxHeartbeats 0 in
theorem hG0:∀ (w:World) (os:OsState),segRunT treeTable pP w 11 (some (.ref 6)) 1 1467 ⟨mkT 20 (w2 w.params),15,{},#[],⟨0,0,0,0⟩,187,os⟩ (piecesOf q0 eV cD ⟨0,0,0,0⟩ bP)=some (.next,⟨mkT 20 (w28 w.params),196,{},#[],⟨0,0,0,0⟩,434,os⟩,cD,⟨110,0,110,8⟩):=fun w os=>by kernel_rfl
abbrev q1:List Stmt:=((behindTheImports pP).drop 26).take 1
set_option maxRecDepth 100000 in
set_option maxHeartbeats 0 in
theorem hG1f:∀ (w:World) (os:OsState),segRunT treeTable pP (w.withFollow "special-get-raises" false) 11 (some (.ref 6)) 1 41 ⟨mkT 20 (w28 (w.withFollow "special-get-raises" false).params),196,{},#[],⟨0,0,0,0⟩,434,os⟩ (piecesOf q1 eV cD ⟨110,0,110,8⟩ bP)=some (.next,⟨mkT 20 (w29 (w.withFollow "special-get-raises" false).params),197,{},#[],⟨0,0,0,0⟩,441,os⟩,cD,⟨111,0,111,11⟩):=fun w os=>by kernel_rfl
set_option maxRecDepth 100000 in
set_option maxHeartbeats 0 in
theorem hG1t:∀ (w:World) (os:OsState),segRunT treeTable pP (w.withFollow "special-get-raises" true) 11 (some (.ref 6)) 1 41 ⟨mkT 20 (w28 (w.withFollow "special-get-raises" true).params),196,{},#[],⟨0,0,0,0⟩,434,os⟩ (piecesOf q1 eV cD ⟨110,0,110,8⟩ bP)=some (.next,⟨mkT 20 (w29 (w.withFollow "special-get-raises" true).params),197,{},#[],⟨0,0,0,0⟩,441,os⟩,cD,⟨111,0,111,11⟩):=fun w os=>by kernel_rfl
theorem hG1:∀ (w:World) (os:OsState),segRunT treeTable pP w 11 (some (.ref 6)) 1 41 ⟨mkT 20 (w28 w.params),196,{},#[],⟨0,0,0,0⟩,434,os⟩ (piecesOf q1 eV cD ⟨110,0,110,8⟩ bP)=some (.next,⟨mkT 20 (w29 w.params),197,{},#[],⟨0,0,0,0⟩,441,os⟩,cD,⟨111,0,111,11⟩):=fun w=>PySem.W.byRow2 "special-get-raises" (P:=fun w=>∀ os:OsState,segRunT treeTable pP w 11 (some (.ref 6)) 1 41 ⟨mkT 20 (w28 w.params),196,{},#[],⟨0,0,0,0⟩,434,os⟩ (piecesOf q1 eV cD ⟨110,0,110,8⟩ bP)=some (.next,⟨mkT 20 (w29 w.params),197,{},#[],⟨0,0,0,0⟩,441,os⟩,cD,⟨111,0,111,11⟩)) hG1f hG1t w
abbrev q2:List Stmt:=((behindTheImports pP).drop 27).take 32
set_option maxRecDepth 100000 in
set_option maxHeartbeats 0 in
theorem hG2:∀ (w:World) (os:OsState),segRunT treeTable pP w 11 (some (.ref 6)) 1 917 ⟨mkT 20 (w29 w.params),197,{},#[],⟨0,0,0,0⟩,441,os⟩ (piecesOf q2 eV cD ⟨111,0,111,11⟩ bP)=some (.next,⟨mkT 20 (w61 w.params),378,{},#[],⟨0,0,0,0⟩,720,os⟩,cD,⟨331,0,350,15⟩):=fun w os=>by kernel_rfl
set_option maxRecDepth 100000 in
set_option maxHeartbeats 0 in
theorem hFin:∀ (w:World) (os:OsState),PySem.W.topRun treeTable pP w 11 (some (.ref 6)) 2 (PySem.W.SharedT.abs ⟨mkT 20 (w61 w.params),378,{},#[],⟨0,0,0,0⟩,720,os⟩) ⟨PySem.W.doneF .next,cD,⟨331,0,350,15⟩,bP⟩=some ⟨HL w.params,#[],⟨0,0,0,0⟩,720,os⟩:=fun w os=>by kernel_rfl
theorem hSplit:behindTheImports pP=q0++(q1++(q2++[])):=by kernel_rfl
theorem hRun:∀ (w:World) (os:OsState),PySem.W.topRun treeTable pP w 11 (some (.ref 6)) (12+(1+(1467+(41+(917+2))))) ⟨boot_heap w.params,Array.mk [],boot_drawn,boot_toks,os⟩ (PySem.W.topStub pP)=some ⟨HL w.params,#[],⟨0,0,0,0⟩,720,os⟩:=fun w os=>by
 refine PySem.W.go_top (hPre w os) (PySem.W.piece_block (hBlk w os) ?_)
 rw [hSplit]
 exact piece_app (segRun_of (hG0 w os)) (piece_app (segRun_of (hG1 w os)) (piece_app (segRun_of (hG2 w os)) (PySem.W.piece_nil (hFin w os))))
set_option maxRecDepth 100000 in
set_option maxHeartbeats 0 in
theorem hk1:∀ (w:World) (os:OsState),(PySem.W.staticsOk (importedModules pP.main.body) (boot_heap w.params) (HL w.params)&&PySem.W.namesBound pP (HL w.params)&&PySem.W.gensDone ⟨HL w.params,#[],⟨0,0,0,0⟩,720,os⟩&&PySem.W.laidKept (boot_heap w.params) (HL w.params))=true:=fun w os=>by kernel_rfl
set_option maxRecDepth 100000 in
set_option maxHeartbeats 0 in
theorem hk2:∀ (w:World) (os:OsState),PySem.W.openSeen hV hL (importedModules pP.main.body) (fun s=>xlAt hV [] s&&recOk (PySem.W.RowW.records PySem.Challenge.rw_lampforge_k39_papers_by_hand.row.toRowW) s) true ⟨HL w.params,#[],⟨0,0,0,0⟩,720,os⟩=PySem.W.openGood hV hL:=fun w os=>by kernel_rfl
set_option maxRecDepth 100000 in
set_option maxHeartbeats 0 in
theorem hk3:∀ (w:World) (os:OsState),PySem.W.Hook.obs (kHook hK hA hQ) ⟨HL w.params,#[],⟨0,0,0,0⟩,720,os⟩=PySem.W.Hook.val (kHook hK hA hQ) w:=fun w os=>by kernel_rfl
theorem hLeft:PySem.W.LeftO pP hV hL (fun s=>xlAt hV [] s&&recOk (PySem.W.RowW.records PySem.Challenge.rw_lampforge_k39_papers_by_hand.row.toRowW) s) (PySem.W.Hook.obs (kHook hK hA hQ)) (PySem.W.Hook.val (kHook hK hA hQ)) 4970 true:=PySem.W.LeftO.of_pieces (H₁:=HL) hOpen hSize hRun (by kernel_rfl) fun w=>funext fun os=>congr (congrArg Prod.mk (hk1 w os)) (congr (congrArg Prod.mk (hk2 w os)) (hk3 w os))
end K39
open PySem PySem.W PyProof.Rows
set_option maxRecDepth 100000 in
set_option maxHeartbeats 0 in
theorem PySem.Challenge.cw_lampforge_k39_papers_by_hand_holds : PySem.Challenge.rw_lampforge_k39_papers_by_hand.Holds := by
 w_on
 refine PySem.W.holds_law K39.hSaid fun said=>?_
 refine PySem.W.holds_open (q:=K39.hV) (loose:=K39.hL) (Xt:=fun s=>xlAt K39.hV [] s&&recOk (PySem.W.RowW.records PySem.Challenge.rw_lampforge_k39_papers_by_hand.row.toRowW) s) (XP:=PySem.W.XL K39.hV []) (Yf:=PySem.W.Hook.obs (kHook K39.hK K39.hA K39.hQ)) (Ya:=PySem.W.Hook.val (kHook K39.hK K39.hA K39.hQ)) (YP:=PySem.W.Hook.says (kHook K39.hK K39.hA K39.hQ)) (N:=4970) ?hl (PySem.W.Hook.of (kHook K39.hK K39.hA K39.hQ)) (PySem.W.Hook.keeps (kHook K39.hK K39.hA K39.hQ)) (fun s e=>PySem.W.xl_of s (Bool.and_eq_true_iff.mp e).1) PySem.W.XL.keeps (by rfl) (by rfl) (by rfl) (fun s e=>PySem.W.recFacts_of (Bool.and_eq_true_iff.mp e).2) (by rfl) (by first | assumption | decide +kernel) (by decide +kernel) ⟨rfl,rfl,rfl,rfl,rfl,by decide +kernel⟩ ?hw ?hc
 case hl=>exact K39.hLeft
 (case hw=>exact ⟨[.list []],by kernel_rfl,by kernel_rfl⟩)
 k_fill
 refine K39.walk (l:=PySem.Challenge.rw_lampforge_k39_papers_by_hand) rfl rfl rfl (fun w h Y=>PySem.W.kIn_of Y) (fun w=>by kernel_rfl) ⟨_,rfl⟩ ⟨_,rfl⟩ ?F
 case F =>
  intro w mg fa h KX G hmg
  refine' K39.all_mk KX G hmg ?_ ?_ ?_ ?_ ?_ ?_ ?_ ?_ ?_ ?_ ?_ ?_ ?_ ?_ ?_ ?_ ?_ ?_ ?_ ?_ ?_ ?_ ?_ ?_ ?_ ?_ ?_ ?_ ?_ ?_ ?_ ?_ ?_ ?_ ?_ ?_ ?_ ?_ ?_ ?_ ?_ ?_ ?_ ?_ ?_ ?_ ?_ ?_ ?_ ?_ ?_ ?_ ?_ ?_ ?_ ?_ ?_ ?_ ?_ ?_ ?_ ?_ ?_ ?_ ?_ ?_ ?_ ?_ ?_ ?_ ?_ ?_ ?_ ?_ ?_ ?_ ?_ ?_ ?_ ?_ ?_ ?_ ?_ ?_ ?_ ?_ ?_ ?_ ?_ ?_ ?_ ?_ ?_ ?_ ?_ ?_ ?_ ?_ ?_ ?_ ?_ ?_ ?_ ?_ ?_ ?_ ?_ ?_ ?_ ?_ ?_ ?_ ?_ ?_ ?_ ?_ ?_ ?_ ?_ ?_ ?_ ?_ ?_ ?_ ?_ ?_ ?_ ?_ ?_ ?_ ?_ ?_ ?_ ?_ ?_ ?_ ?_ ?_ ?_ ?_ ?_
  all_goals try first | k_is | (refine' L2.fun_mk ?l ?c ?k;(case l=>k_is);(case c=>k_is);(case k=>k_is)) | (decide) | (exact rfl) | (k_keys) | (rfl)
