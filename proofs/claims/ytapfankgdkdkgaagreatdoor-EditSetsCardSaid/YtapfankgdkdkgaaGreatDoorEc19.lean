
import Derived.Test.YtapfankgdkdkgaaGreatDoorEc17
import Derived.Test.YtapfankgdkdkgaaGreatDoorEc18
set_option linter.unusedVariables false
namespace Go.Proofs.YtapfankgdkdkgaaGreatDoor.AM
open Go.RowKit
set_option maxRecDepth 20000
abbrev Zv:=(Yy×(Yy×(Unit×(Unit×(Unit×(Unit×(Int×(Int×(Yy×(Unit×Unit))))))))))×((List (Yy×(List Yy×(Bool×IV))))×((List ((Yy×Qq)×(Int×Int)))×Unit))
abbrev Zw:=LQ×((List (Yy×Yy))×(LQ×((List (Int×(Int×(Int×(Yy×Qq)))))×Unit)))
def qal (n:Nat) (a1:Yy):Option ((Yy×(Yy×(LQ×((List (Yy×Yy))×(LQ×(List (Int×(Int×(Int×(Yy×Qq))))))))))×(Int×Int)) :=
 qkl (qa0 n a1) (fun (r1:(Unit×IV)×Zv×Zw)=>(q43 (Subtype.val r1.1.2)).bind fun (hb2:Bool)=>(bif !hb2 then (qr6 r1.1.2).bind fun (r3:Int×Int)=>some ((([]:Yy),(([]:Yy),([],([],([],[]))))),r3) else some ((r1.2.1.1.1,(r1.2.1.1.2.1,(r1.2.2.1,(r1.2.2.2.1,(r1.2.2.2.2.1,r1.2.2.2.2.2.1))))),(r1.2.1.1.2.2.2.2.2.2.1,(0:Int))))) ((qdv n a1).bind fun r4=>(q43 (Subtype.val r4.2)).bind fun (hb5:Bool)=>(bif !hb5 then (qr6 r4.2).bind fun (r6:Int×Int)=>some ((([]:Yy),(([]:Yy),([],([],([],[]))))),r6) else none))
def jcf (n:Nat):FC:={ f:=16,args:=[.one (.c (.d .str))],res:=.tup [.agg [.d .str,.d .str,.d (.lst (.prod .str Tv)),.d (.lst (.prod .str .str)),.d (.lst (.prod .str Tv)),.d (.lst (.prod (.int .i64) (.prod (.int .i64) (.prod (.int .i64) (.prod .str (.prod .str Tv))))))],.c (.d (.int .i64)),.c (.d (.int .i64))],F:=fun p=>qal n p }
def j9x:q1j:=[(5,[⟨28334198897235051184128,2^72,0⟩,⟨13469017440257*2^34,2^75,1⟩,⟨107752139522049*2^34,2^78,3⟩,⟨862017116176385*2^34,2^81,7⟩,⟨116056878683004417951694848,2^84,0⟩,⟨55169095435288577*2^34,2^87,16⟩,⟨441352763482308609*2^34,2^90,48⟩,⟨3530822107858468865*2^34,2^93,112⟩,⟨63975078001172785699595083761656459625154462486552420152755668189454205310145231665361909728988203846127464659584632570591882863147988612686098388825205459952577415643361923577194176540294441230030204330554816361762580036855539214046979042325413363925334353010373052454148503153882388735634505632984823914257227860927385419819545690843044525663354377814301668391133744615720844253665637376428345383085805882352021463613448566615853155714661322016337867450806562938145655069565680061966678409365314206017397805514718192935986593406391324337309512466383195727130788302946512340244429621911298897954896825665961532052337379856960518872276773097627748011167723302515212826264489956188759331178405026965916060520460010675700491799418752566584212753114833955042623952495244446606691991286833485170775938613069576516635512464114091057369147037248478858510924793020482280934356656627542436445151545759530299686486874566919193340452192166397152647131286179499825736482847408367404442387092685458094123574769780442370636570635186748030706898742036218878368049810931042713657238527157684785650646588984110156142607753344014264965311306895995445871126701092255179379452262992958430755870350944801606234644772930007415765758727811336074316555096701945325116458828129664619723992579897789605312484334322215157666843607578793756371580130920214739434093409529372723099281400835550219551118344498052710376393548457573821733829868970366279183608651366990059185723245772591829078895289395480089452627631551848570139613168342000649128549142914647579858599058426593711659660114293554671553345697623569953373402756383904396699819934755063209258219985046632890132163094516253799540889779712458662518126035170975059443979520809580398357678880052443106687024664064053298265031552090599964126695733730172391253125913919661980921284841465816997953139127005393825708689362230605955623354801402692345866845887237289181488062488781954609689126408130295766596393869390434411592695853114403934956877843818801462825714440271603816339076012480983577321878710139385107146932348864306974253321189501249421224461187792674631231308095129495683639475398606215788535894605407471870420883857091208036746525653757999344034426463921356486661732436055374422719246551646470150051551038948545812619424376099243902843857446806039479306179861353096289952016886050986935705636897246065879281119692154342240075006643032671968842572441423024216979651629730437770184092748500658724415741277097505364551909406178898760450852224071881519788310640830300635308982002732587773381496087038957290339791930679123606405727191795367237488684160822662807581390954065273399160134750470192531808209176994051395371460370223618158210615140839448487454387038131805806747260304611107406016,128,15⟩,⟨9903520314283042199192996864,512,511⟩,⟨24576,4096,1023⟩])]
theorem qjd (n:Nat):q05 Inv Tryz.prog (jcf n):=mkF Tryz.func16 j9x [] (cc (c:=j21 (ql6 n) [] [(44,11),(1044,1011),(2044,2011),(3044,3011)] [(29,11),(26,1011),(27,2011)]) (fun G hG=>j1i (qn3 n G hG)) <| cc (jeh) <| cc (qsq n) <| cn) (by kernel_rfl) trivial (by intro a;kernel_rfl)
def qa9 (n:Nat) (a1:Yy) (a2:Yy):Option (Int×(Int×Bool)) :=
 qkl (qa0 n a1) (fun (r1:(Unit×IV)×Zv×Zw)=>(q43 (Subtype.val r1.1.2)).bind fun (hb2:Bool)=>(bif !hb2 then some ((0:Int),((0:Int),false)) else j3e (q02 (.prod .str (.prod .str Tv)) (([114,101,113,117,105,114,101]:Yy),(a2,((0:Int),((0:Int),((0:Int),(([]:Yy),([]:Yy))))))) r1.2.1.2.2.1) ((0:Int),(0:Int)) fun (y3:Int×Int) (hb4:Bool)=>some (y3.1,(y3.2,hb4)))) ((qdv n a1).bind fun r5=>(q43 (Subtype.val r5.2)).bind fun (hb6:Bool)=>(bif !hb6 then some ((0:Int),((0:Int),false)) else none))
def j77 (n:Nat):FC:={ f:=19,args:=[.one (.c (.d .str)),.one (.c (.d .str))],res:=.tup [.c (.d (.int .i64)),.c (.d (.int .i64)),.c (.d .bool)],F:=fun p=>qa9 n p.1 p.2 }
def j8k:q1j:=[(5,[⟨864691128455135235*2^27,2^84,0⟩,⟨3530822107858468865*2^28,2^87,1⟩,⟨55340232221128654851*2^27,2^90,0⟩,⟨225972614902942007297*2^28,2^93,4⟩,⟨442721857769029238785*2^30,2^96,0⟩,⟨154742504910672534362415104,4096,3⟩,⟨9903520314283042199193190400,32768,47⟩,⟨79228162514264337593545523200,2^18,127⟩])]
theorem qi2 (n:Nat):q05 Inv Tryz.prog (j77 n):=mkF Tryz.func19 j8k [] (cc (c:=j21 (ql6 n) [] [(44,13),(1044,1013),(2044,2013),(3044,3013)] [(29,13),(26,1013),(27,2013)]) (fun G hG=>j1i (qn3 n G hG)) <| cc (qsq n) <| cn) (by kernel_rfl) trivial (by intro a;kernel_rfl)
set_option linter.unusedSimpArgs false
def WAt (i:Nat) (ws:List Lx.Wd):Prop:=∀w∈ws,0<=w.2/\w.2+((w.1.length:Nat):Int)<=(i:Int)
theorem WAt.mono {i j:Nat} {ws:List Lx.Wd} (h:WAt i ws) (hj:i<=j):WAt j ws:=fun w hw=>by have:=h w hw;omega
theorem WAt.snoc {i:Nat} {ws:List Lx.Wd} {w:Lx.Wd} (h:WAt i ws) (hw:0<=w.2/\w.2+((w.1.length:Nat):Int)<=(i:Int)):WAt i (ws ++ [w]):=fun x hx=>by
 rcases List.mem_append.1 hx with hx|hx
 ·exact h x hx
 ·rw [List.mem_singleton.1 hx];exact hw
theorem WAt.addL {i:Nat} {ws:List Lx.Wd} {c:UInt8} (h:WAt i ws):WAt (i+1) (Lx.addL ws c):=by
 unfold Lx.addL
 split
 ·rename_i t p hp
  have hm:(t,p)∈ws:=List.mem_of_getLast? hp
  have h0:=h _ hm
  refine WAt.snoc (fun x hx=>?_) (by simp at h0 ⊢;omega)
  have:=h x (List.dropLast_subset _ hx)
  omega
 ·exact h.mono (by omega)
theorem qjl : ∀(l:Yy) (i:Nat) (op:Bool) (ws:List Lx.Wd),WAt i ws->WAt (i+l.length) (Lx.qjq l i op ws)
 | [],i,op,ws,h=>by rw [Lx.qjq];exact h
 | c::r,i,op,ws,h=>by
  rw [Lx.qjq,List.length_cons,show i+(r.length+1)=(i+1)+r.length by omega]
  split
  ·exact qjl r (i+1) false _ ((h.mono (by omega)).snoc (by simp))
  ·split
   ·exact qjl r (i+1) false _ (h.mono (by omega))
   ·split
    ·exact qjl r (i+1) true _ h.addL
    ·exact qjl r (i+1) true _ ((h.mono (by omega)).snoc (by simp))
theorem qql (t:Yy):WAt t.length (q0w t):=by
 unfold q0w Lx.qdc
 rw [Lx.qd3]
 have:=qjl (t.take (Lx.qid t false)) 0 false [] (fun w hw=>by cases hw)
 refine this.mono ?_
 simp;omega
theorem qzt (t:Yy) (h:t.length<=100001):WB (q0w t):=by
 refine ⟨Nat.le_trans (Lx.jh4 t).1 h,fun w hw=>?_⟩
 have:=qql t w hw
 omega
theorem SB.mono {k j:Nat} {σ:MS} (h:SB k σ) (hj:k<=j):SB j σ:=by unfold SB at *;omega
theorem qcy {k:Nat} {σ σ':MS} {c:Cl} {st:Int} {w:Lx.Wd} (h:SB k σ) (e:q0p σ c st w = .inr σ'):SB k σ':=by
 unfold q0p at e
 split at e
 ·cases e
 ·cases e;exact h
theorem jp9 {k:Nat} {σ σ':MS} {v:Yy} {ws:List Lx.Wd} {st:Int} (h:SB k σ) (e:q8o σ st v ws = .inr σ'):SB (k+1) σ':=by
 have h':=h.mono (Nat.le_succ k)
 obtain ⟨b1,b2,b3,b4⟩:=h
 unfold q8o at e
 split at e
 ·cases e
 ·split at e
  ·split at e
   ·cases e
   ·refine qcy (k:=k+1) ?_ e
    exact h'
  ·split at e
   ·split at e
    ·cases e
    ·refine qcy (k:=k+1) ?_ e
     exact h'
   ·split at e
    ·split at e
     ·cases e
     ·exact qcy (k:=k+1) ⟨by simp;omega,by simp;omega,by simp;omega,by simp;omega⟩ e
    ·split at e
     ·split at e
      ·cases e
      ·exact qcy (k:=k+1) ⟨by simp;omega,by simp;omega,by simp;omega,by simp;omega⟩ e
     ·split at e
      ·split at e
       ·cases e
       ·split at e
        ·cases e
        ·exact qcy (k:=k+1) ⟨by simp;omega,by simp;omega,by simp;omega,by simp;omega⟩ e
      ·split at e
       ·cases e
       ·split at e
        ·cases e
        ·split at e
         ·cases e
         ·cases e
          exact ⟨by simp;omega,by simp;omega,by simp;omega,by simp;omega⟩
theorem jbv {k:Nat} {σ σ':MS} {v:Yy} {ws:List Lx.Wd} {st:Int} (h:SB k σ) (e:q4w σ st v ws = .inr σ'):SB (k+1) σ':=by
 unfold q4w at e
 split at e
 ·exact jp9 h e
 ·cases e
theorem qyd {k:Nat} {σ σ':MS} {ws:List Lx.Wd} {st:Int} (h:SB k σ) (e:q3j σ st ws = .inr σ'):SB (k+1) σ':=by
 unfold q3j at e
 split at e
 ·cases e;exact h.mono (Nat.le_succ k)
 ·split at e
  ·split at e
   ·cases e;exact h.mono (Nat.le_succ k)
   ·exact jbv h e
  ·split at e
   ·cases e;exact h.mono (Nat.le_succ k)
   ·exact jbv h e
def tot:List Yy->Nat
 | []=>0
 | x::xs=>x.length+1+tot xs
theorem qx2 (c:UInt8) : ∀(l cur:Yy),tot (spl c cur l)=cur.length+l.length+1
 | [],cur=>by simp [spl,tot]
 | x::r,cur=>by
  rw [spl]
  split
  ·rw [tot,qx2 c r []];simp;omega
  ·rw [qx2 c r _];simp;omega
theorem jcp (s:Yy):tot (Lx.q0a s)<=s.length+1:=by
 unfold Lx.q0a
 split
 ·simp [tot]
 ·rw [qx2]
  split
  ·simp
  ·simp
theorem qja : ∀(ls:List Yy) (i:Nat) (out:List Lx.Ln),(Lx.q2w ls i out).2.2=0->Lx.q2w ls i out=(out++ls.map Lx.qdc,(((i+ls.length:Nat):Int),0))
 | [],i,out,_=>by rw [Lx.q2w];simp
 | x::xs,i,out,h=>by
  rw [Lx.q2w] at h ⊢
  split
  ·rename_i hc
   rw [if_pos hc] at h
   rw [qja xs (i+1) _ h]
   simp;omega
  ·rename_i hc
   rw [if_neg hc] at h
   cases h
def fauT (i e:Int):IV:=qh5 128 (.agg ⟨[.int .i64 i,Subtype.val (errT e)]⟩)
theorem jf5 (i e:Int):qr6 (fauT i e)=some (i,e):=rfl
theorem jci (i e:Int):q43 (Subtype.val (fauT i e))=some false:=rfl
theorem jhd (n:Nat):qgc n=q3f n:=rfl
theorem qt9 (n:Nat) (ls:List Yy) (a2:Int) (hl:ls.length<=100001) (hx : ∀x∈ls,x.length<=100001) (hn:200000<n) :
  ∀(m j:Nat) (st:Int) (σ:MS),j<=ls.length->ls.length - j<m->0<=st->st+((tot (ls.drop j):Nat):Int)<=1000000->SB j σ ->
  match q1v (ls.drop j) (j:Int) st σ with
  | .inl e=>∃ y,q3f n m (ls.map Lx.qdc) a2 ls ((ls.length:Nat):Int) (j:Int) vbs σ.sd σ.mo σ.go a2 st σ.bk σ.rq σ.sw σ.ex σ.rt=some (Sum.inl ((qti,(fauT e.1 e.2,())),y))
  | .inr σ'=>∃ st',q3f n m (ls.map Lx.qdc) a2 ls ((ls.length:Nat):Int) (j:Int) vbs σ.sd σ.mo σ.go a2 st σ.bk σ.rq σ.sw σ.ex σ.rt =
    some (Sum.inr (((a2,((),())),((vbs,(σ'.sd,((σ'.mo,(σ'.go,((),((),((),((),(a2,(st',(σ'.bk,((),())))))))))),()))),(σ'.rq,(σ'.sw,(σ'.ex,(σ'.rt,()))))))))
 | 0,j,st,σ,_,h,_,_,_=>absurd h (Nat.not_lt_zero _)
 | m+1,j,st,σ,hj,h,h0,ht,hs=>by
  rw [qf5]
  unfold qie
  by_cases c0:j<ls.length
  ·have c0':((j:Nat):Int)<((ls.length:Nat):Int):=by omega
   rw [List.drop_eq_getElem_cons c0] at ht ⊢
   rw [tot] at ht
   have hxj:=hx ls[j] (List.getElem_mem c0)
   have i2:q0d (ls.map Lx.qdc) (j:Int)=some (Lx.qdc ls[j]):=by
    rw [q0k (by rw [List.length_map];exact c0)];simp
   have hL:=qxi n σ (q0w ls[j]) a2 st ⟨h0,by omega⟩ (qzt _ hxj) (hs.mono (by omega)) hn
   rw [q1v]
   simp only [c0',decide_true,cond_true,q0k c0,i2,Option.bind_some]
   cases hr:q3j σ st (q0w ls[j]) with
   | inl e =>
    rw [hr] at hL
    obtain ⟨y,hy⟩:=hL
    unfold q0w at hy
    refine ⟨((),()),?_⟩
    rw [hy]
    rfl
   | inr σ' =>
    rw [hr] at hL
    unfold q0w at hL
    have hL':_=some (q9s,pk σ' a2 st vbs):=hL
    rw [hL']
    have e1:IntKind.wrap .i64 (((ls[j].length:Nat):Int)+1)=((ls[j].length:Nat):Int)+1:=wrap64 (by omega) (by omega)
    have e2:IntKind.wrap .i64 (st+(((ls[j].length:Nat):Int)+1))=st+((ls[j].length:Nat):Int)+1:=by rw [wrap64 (by omega) (by omega)];omega
    have ih:=qt9 n ls a2 hl hx hn m (j+1) (st+((ls[j].length:Nat):Int)+1) σ' (by omega) (by omega) (by omega) (by omega) (qyd hs hr)
    simp only [pk,q95,Option.bind_some,Bool.not_true,cond_false,q00,e1,e2,q03 (show j<4611686018427387904 by omega)]
    exact ih
  ·have c0' : ¬ ((j:Nat):Int)<((ls.length:Nat):Int):=by omega
   simp only [c0',decide_false,cond_false]
   rw [List.drop_eq_nil_of_le (by omega),q1v]
   exact ⟨st,rfl⟩
theorem qne (n:Nat) (s:Yy) (hs:s.length<=100000) (hn:200000<n) :
  match q9e s with
  | .inl e=>qa0 n s=none/\qdv n s=some (qti,fauT e.1 e.2)
  | .inr (σ,k)=>∃ st',qa0 n s=some (((),q9s),pk σ k st' vbs):=by
 unfold q9e qa0 qdv
 obtain ⟨l1,l2⟩:=Lx.q5h s
 have l3:=jcp s
 rw [Lx.jg4 n s hs (by omega)]
 by_cases h9:(Lx.q2w (Lx.q0a s) 0 []).2.2=0
 ·rw [if_neg (by simp [h9]),qja _ _ _ h9]
  have hlp:=qt9 n (Lx.q0a s) ((Lx.q0a s).length:Nat) (by omega) (fun x hx=>by have:=l2 x hx;omega) hn n 0 0 ms0 (Nat.zero_le _) (by omega) (Int.le_refl _) (by rw [List.drop_zero];omega) ⟨Nat.le_refl _,Nat.le_refl _,Nat.le_refl _,Nat.le_refl _⟩
  rw [show ((0:Nat):Int)=(0:Int) from rfl,List.drop_zero] at hlp
  simp only [Option.bind_some,decide_true,Bool.not_true,cond_false,qwg,Lx.j1f n s (show s.length<=1000000 by omega),List.nil_append,Nat.zero_add,jhd]
  cases hr:q1v (Lx.q0a s) 0 0 ms0 with
  | inl e =>
   rw [hr] at hlp
   obtain ⟨y,hy⟩:=hlp
   rw [show ms0.sd = [] from rfl,show ms0.mo = [] from rfl,show ms0.go = [] from rfl,show ms0.bk = [] from rfl,show ms0.rq = [] from rfl,show ms0.sw = [] from rfl,show ms0.ex = [] from rfl,show ms0.rt = [] from rfl] at hy
   rw [hy]
   exact ⟨rfl,rfl⟩
  | inr σ =>
   rw [hr] at hlp
   obtain ⟨st',hy⟩:=hlp
   rw [show ms0.sd = [] from rfl,show ms0.mo = [] from rfl,show ms0.go = [] from rfl,show ms0.bk = [] from rfl,show ms0.rq = [] from rfl,show ms0.sw = [] from rfl,show ms0.ex = [] from rfl,show ms0.rt = [] from rfl] at hy
   rw [hy]
   simp only [Option.bind_some,Sum.elim_inr]
   by_cases hb:σ.bk = []
   ·by_cases hm:σ.mo = []
    ·simp only [hb,hm,decide_true,Bool.not_true,cond_false,cond_true,ne_eq,not_true_eq_false,if_false,if_true]
     exact ⟨trivial,rfl⟩
    ·simp only [hb,hm,decide_true,decide_false,Bool.not_true,cond_false,ne_eq,not_true_eq_false,if_false]
     exact ⟨st',by rw [<-hb];rfl⟩
   ·simp only [hb,decide_false,Bool.not_false,cond_true,ne_eq,not_false_eq_true,if_true]
    exact ⟨trivial,rfl⟩
 ·rw [if_pos h9]
  simp only [Option.bind_some,decide_eq_false h9,Bool.not_false,cond_true]
  exact ⟨trivial,rfl⟩
theorem qy2 (n:Nat) (s:Yy) (hs:s.length<=100000) (hn:200000<n):qal n s=some (q6v s):=by
 have h:=qne n s hs hn
 unfold qal q6v
 cases hr:q9e s with
 | inl e =>
  rw [hr] at h
  obtain ⟨h1,h2⟩:=h
  rw [h1,h2]
  simp only [qkl,Option.bind_some,jci,Bool.not_false,cond_true,jf5]
 | inr x =>
  obtain ⟨σ,k⟩:=x
  rw [hr] at h
  obtain ⟨st',h1⟩:=h
  rw [h1]
  simp only [qkl,q95,Option.bind_some,Bool.not_true,cond_false]
  rfl
theorem qyn (n:Nat) (s p:Yy) (hs:s.length<=100000) (hn:200000<n):qa9 n s p=some (q3h s p):=by
 have h:=qne n s hs hn
 unfold qa9 q3h
 cases hr:q9e s with
 | inl e =>
  rw [hr] at h
  obtain ⟨h1,h2⟩:=h
  rw [h1,h2]
  simp only [qkl,Option.bind_some,jci,Bool.not_false,cond_true]
 | inr x =>
  obtain ⟨σ,k⟩:=x
  rw [hr] at h
  obtain ⟨st',h1⟩:=h
  rw [h1]
  simp only [qkl,q95,Option.bind_some,Bool.not_true,cond_false,pk,j3e]
  show some _=some (match q02 clT (q0s,(p,v0)) σ.sd with|some x=>_|none=>_)
  cases q02 clT (q0s,(p,v0)) σ.sd<;>rfl
end Go.Proofs.YtapfankgdkdkgaaGreatDoor.AM
