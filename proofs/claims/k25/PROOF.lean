import PyProof.Rows.All
import Wide.All
import OpenK.AllK
import Wide.FinOn
import Lean
import PyProof.EqAt
import PyProof.EqKinds
import PyProof.TupleCall
import PySem.Str
import PyProof.ZipIter
import PyProof.Draws
import PyProof.StrLawsChain
import PyProof.StrLawsTight
import KE.KIntText
import OpenK.KTop
import PyProof.StationsW
import PyProof.ExcClass2
import PyProof.ExcBaseAll.ValueError
import PyProof.Rows.Catch
import OpenK.KOwn
import KE.KTryMore
import KE.FramesApart
import PyProof.RulesAs
import PyProof.NsDelKeeps
import PyProof.ExcArgs
import PyProof.Rows.SortStr
import KE.KDictSum
import PyProof.DictWalks
import PyProof.IsiH_list
import KE.KDictOf
import PyProof.NeKinds
import PyProof.StrCalls6
import PyProof.FString
import KE.KUnpack
import KE.KItemsList
import KE.KRevIter
import KE.IntBitsLaws
import PyProof.FString5
import PyProof.TupleKey
import Wide.Seal
import PyProof.Rows.SortShellK
import PyProof.DictRoadsH
import PyProof.Rows.SortRev
import PyProof.Rows.SetFrom
import PyProof.FactsAll.set_2
import PyProof.FactsAll.set_1
import PyProof.Rows.SortShell
import PyProof.Tail
import KE.KMinKey
import PyProof.ExcArgsOwn
import PyProof.ExcAttrAll.ValueError
import KE.KRevSl
import PyProof.FactsAll.dict_itemiterator_1
import PySem.Challenge.RW_askwright_k25_whole_by_the_project_alone
set_option hygiene false in
local macro_rules | `(command| #print $s:str) => do { let mut a := #[]; let mut n := 0; let mut k := 0; for c in s.getString.toList do { let v := c.toNat; n := n*64+(if v<58 then v-48 else if v<91 then v-55 else if v==95 then 62 else if v==126 then 63 else v-61); k := k+1; if k%11==0 then { a := a.push (Lean.mkIdent (Lean.Name.mkSimple ("tw"++toString n))); n := 0 } }; `(structure PySem.W.Fast:Prop where ($a*:True)) }
set_option maxRecDepth 100000 in
#print "2sRhNeLevnz1ZzgQbVW_zO7g~UCfxJcpa2hNDOqWCq2O1UO4qs~~Bm~3r52s8jIOniBGyfKJEIi7zDwJD4moIVK49oIBvOHWM8C0ebXrx3yLlB3~mUpl_FACA4h7pAIDtFd7C6a6WgYMGZjBnGdvhUfezq7U9vJwzcHuS1H2W3BusrhP6AFQ6X9r~GU8nYK4ilW~AF6Svioo_LxFs5BKwWDIWX6Q5wts7pcG2icAacpX9jbRTY8OG_YtJFkTFE__DL38lFNI2L6M~EAGdoQ2jfV887kjVm3oBw3V~f9zc0~X5jmU5O~yCnxEOuLUGyp2ehOPlFXgCS1Sx9BaMqmKC8qO_g3W9ORdBKtjAgbObK_6fdhWrDyXHx8Pj8WpAMIyi9mTUPCThWOx3caGp4ZrnAO4HiJMo1SxtfEKsqp~jNO3h5TjAdLexLQ43eJjFg1tqocCWogH2KLZBJFc7NOSAFFkK3Pt3YY5PDMu7jYMxr2OFFh6_9g8ekmUVEER7x_J29dZf7n2vVizhuYI1UQ~BOsIEsW37oIXpErkhy3tTyXZdZjtw5HMLa_imd~n51sBsxoelCP1zbcjsHYRmzE88SKoePIJW7kReksvCRZ6DIwmuapBKWlCMnzMRFJL5dFMidmupCOyr6UZ8i1fynLMA_~pYTjalExDlg_6VNlEFjD0q4XDBiQKo6OT0Mw_F3uiC7_V5ZLUqqf5QUx1qjCOZo30QdeS_ZwPp5uyRhyKXmjbCzlA40Cd_t67dGUsJm3rfr9vnpPpujaPfEbY2SE0SVZo7B6oAwrItpI76NKIZVa6jvCblX_lCKNl59P4vsDdzPdp7SFX5ZId0_B5m1FrU0XsWU8bznK~KGcA~AYJZ~VJy0Jt7RrvpgqLv2C2QXH2_LdGgp4Pi4sw28OVx76OyIWjl15r03v92R_M6ITDwRPtA9YVQ33hsr1vbSCzbCrXgKIwzN5Y1A_u5erERfVBvPG2cXedTn6ZFjtLUqG2N1QaKMUnBIQJ6557dYe492PFembLD7qOCoFDr1~0TdEwUCQ2mOdWgEkM5MWkGbIV4lg496yY32OYMo6I_GbdU0zfN5XLwrWbaAMpEzeutNPwA6f4Y5u2wZ1AjZBBsCkjuhMCgFWq7n1rYL_G9hgkkCLy5PlEYCEzWQQAJWBa5AmbIfY2d74FGO7xa8vPCtLIp5HD0CFF20SnsZaNL9CJ18MPrB_krAA~ION3KsQE4rAJury7UDa1n3Q~7WDLF384pQua29BK1BgMaJUmaD4QBwIgVKkLbW444iarAgXcyEEsudFR8DWO6EebSpRM74Bj6FE6t35z2~r7LXD2KNwKgMB3SSJga7Sd55AMEOeb39QX8srHsxJ5n_vBsDWD5OqJtK5oIlzv5OuuLCvpqPC1nJiVB0MuCoVN97nEWIDf3IRCi31IDCnic8l~NDfmGHj7mgtj6yqXdXF2nGwEVJqK1OHAm18X43ns1XbvV18Pj8cmhVPhDXu6tLBs3n67TKeIF~w35B9tgZWpv9YmkETy1UJsbTZ51or21srBNB19_hT6wjXQny4FvbGQcTriD0Se3~j8~apo8gZD23tC6USF6KmXbhqWeiFdXrgZi2C7R9PASboD6z2K0o2FvR458NI5T60CyJF36oBae8aJvf97o7sKOSaXYk5A7zTKC_ZTsOk4P9t6jBarnR7aSxNr2d8M11_hg5Q7rUO_E5wYSRxlUhS3AR6MY4i3lg8Gf7XXxWyNH5n9vLLH5O3S0UR5beNnGmJ86h_Xth7mz253NGJPzVSyo1~zJp8XFgyy3O4d5CkIYJZ2i8ngziD2wKEaoloA6mF3TDrd9untNnrt4AoJLqAhpg8B8GztEo7Wd94s6tiPZqOeKE9KnK6_M3l8Eoip8MNpM3e0wq1sQ0mfmDDczMDXuy1euFAsSSuv~cav7VjQItSjuD611PzVwW~L3r3Gqc0EHlDRI7QI3iRPuGzOFA9bsROIXEX8oxLwMquTDzF7A4YYTXhCi1hnPHB14syDAEsW3n9PO96E8ZXeLYWLG60pDHMHdJuPA4VXPKoy0TtQ2AuRw0b3PcpE4_kzRpDgzz6Nfuq5FOpY0CN_TT9HgbFT9zjZo339s993YOG9~7odfL52J_GaGDmucCXs3bfoHAw292MDaqv6TGG9VkVWWCTG5_BVAkJBsz3nN68j7vNllcPlCxzMTs2SBcZFH7ky67sOdG3029UZwh8w86sYlq002WRe5hOC3nCnunP5N4pfjOxI3T0imyAu9gaGh1KbrhcQKn121i2VJvHX1NiFn~Ij0dom3r4DEckUQS0uxFf9HR8BQrncEEIG~KEJEi47yKvk2NalZmAevwj9S2ZZo09XMdM0aB5X5SSaCxC7ee31TQYQ0gP1PjAZLY2BMtaRjFIOhI9whrco3XsZ7TSogz~7mewCXCzUWiByxfaVyEbipAK8bM21~Uc5DBKbIOlyJRsAlgwNN1KLky3NHw736R~DC9izg9diOAm~DO4cQq0HnNm7~b~MUB6w4MEs3Mnws2SoU1hu91Qgis4eDDxhi_LgPPj46~s_xnUBuS1MVMKErCFGdE9KFIvMf6QCF6xIHJSrNve451eL2m8cBRFhl26s0Lur43Fm6kezvaY44~AWA0m2MkR1AInFqkaLiDBTWhbnXQRzD2h6aYf1cqiMDsMBvjq73V7BnEh5ARN8~R0Hte9jKBms90kJbLQ77OcsAMuxV5LJ7GP0TRb8cr_xK9DjqK_62hBnDBeP5rem8W_TEA1fyWN5RtzE2PFUuIzW8hB4C36xK6iT4FmLO8_E6oeD2yryPEBMUhn5IihTxVzCSf8JZTQnrKsl46KADdkUtsg87~9_KxRRVVA234487iOjYxFdUmfN0deXYEJp2UISsKunDF4d5hYUhfR5VKcrclzpqUCk5rlG39afj0QS1oxSdUox5CzQhVhIwoS7_UZmx93bP13Q7~SYpRjZ1DnTxluR_bMb17HOF6NP1Pt0jFgHOUnNK81mVQgbjD0IrCtQXy4q8DNOAiwiYkZsNd~2_JrgHtsg9S0l7LjRjxuOB19Z8KBt5kLhFeifQps_YY50qx6CMUmEGj1KzhRS_eb210Ej1q9GvTUc3WJgzF8OkEZ2sR~AYoFDRU2VT_oVIRSXC9T1gqezU0LvBSK40zxH7sd4wuxraf5xBNDirM9ImMnQZBrm10eg89Aw0Mqz6AtGQdq3LlSjUi5pNn23RJ0RjhAB66ofm5Fm4jzg7u8F95Klmxz1rIiqlV71Wj05WSY6xWSyi2lQb7r9TqFaEoIw0dWUg5SAAj7ggQ~B6G4CkaGaa5ppO3bPgHJfWZA47VWbcA41j2P4KPquWWuvLHCoIWf5aLveKE9_KN1n3Q7j63mqxEP76KIA~TUtU9Ss1E2yfeBhvVVPwDSK2Gx9e0jtEThuU5rNHPA0y2nRyd6asdA1VxliwyP~l1OLRerIrRC_AazjvtzndGN6mi3WUnZxaIDsIWulZwxKQ4~98ESbwn5t496Hmq3gk6bDaTKAJtZ58oFIkq0R1aDls8gDUQH~RsxVFoPQayVKoL9Fi4ex59eFsX1PLth5ND7wBD94z8PEcZNiF72oIc08ykU4OHLI4zcN055gaGwZ67i0j9citLhyOf7pEnC829j~Lw66n0ep9IX1jU3lRog1mg~7REOZuxVSNHyt6eFBkMOkmtoFFiOljRdDULFWZJSickml2F9YK_~uSp4~9~heHORgiSxAoGReha0UeuC9DTybsZj5J0~b7Gff9njw2rirv6CFQh_9IAxidf~GwV0JR3ihPL_Y49AyI61OifiF82Jb5fuihKyEqRu7wA9k4eBCtqEnbkdRM8dqi9rmAZpEF9LAGiUfmMV56wRobgPoJP8GUxdrZJwqp4VJTMYMZIGK54bboMFrT8KFRfNuJCLXnwBUFHRt_jZC62j5i3icNuZ~D15psciuT3g6WULaU0gYr65aADRf3a75CFlQa~9Qnwuu1gzO0Gqp990DBcsgShyJy8AMnbh5BvWGjAXETGnRGRJ~6Fi3ImrGRpg5LxALHMsdfJBoOM0gWuHEiE_lBp_Kw9OqC4RDiqAHL6e5hyOhLj3TIhDPdaLRm5PSFDeaNFK~UCsL5OSX11oRWla0Vi3yYUMMxL6rPT7ilMceIELX1qwbBuX~2DI5WEpIsm_FjMSOb7H6dF8zuHYyeUAx89ZwN1YgyaFu1SUEUkeNBbS7nCqz_CQNoG6aHY7JTqkMr4ZH9O~aiqlSBYnvoyZdJIo7W098LO2GZuEXULJPnZFFxCDLvxDPS_ha1PonU~Mxk5y5OtOTM~K7o124G_8QYs2O36b9TSRMXh235E47vwS3mmcAqV7Agu7uQQ6IIs3hl5DacEUuSgTEW79X3qYigEYEAge1EW7V_ga~xzFwTmw5TLkg30Q~1TAQyIc210GryffE7w91Lhfwnk~UOW1xK8_~TAj7d6RH2cxFSVy~4aK1yqZ~btb5lRcf~Y2O7uEXiKAWwv9B92Pr7ITpHqDJ1EfOrIVQ5Q35ImUeMMM9fsBaNCbpD1SDt8S4uDxK~jjYBfaftx8dJZK2yjzycBUPh94~kCG4Hdg3LEbobswgcUN30UD00SHjgir48_Wnbt5ZEQ78Yurr40MMqFN26EDjtyIjFUqiUFlbr9p3nfOtozO1ak5nZyXt_fMvm9A_jSnzKY2u8E3qWlUxdXL8wwFjvE_nTDB4RwcKJ2AjX7MwW9y8mk515ljqaCx_vmLDzvXeA~om~V7BM1uIDuVC10o0nwUm~T0PEfMwlYNP0wO1JNU0YiHcYhCI7YanUXj5uCHHjJPzFd8_6MFe_RlJx_LCn~lZ3HOAqeAzDKRUfDb7BDsiYw6GUBIB0LcWH97mMh49iEsWyJPKQg08aN44g2Vh95ZvJ5sgcs7y2hF7CKN5D9s1lhZgweOyyPCIM4WRSOC1h8eYfnrzkI8gEfHOOrLLf5O2DvSTViDcGY9O_apQXnV4p7Tntc3khuUT4hotrcXDDNsA4HmcC7pY5k9wC8FctXnFD2tvhEzbcx5n2XihQPrc4_xC49kmdKacTl2L96Xku7Rit0Qx4GmnZXQsDvIwvczlQHZ1WNAHHwnLVSFxHlAoTfC~X2DYWO6dTZRXAVhpQS_3sxrEBY7uMCpuXpAjXq5WucuGbDYQDaQnH4VyEMcv2Kjgxle1Q5UcZthSVp2m2MGVU7G1b78rMiCu3RVwBaAyU0g_yKnDAJNqkqrwZmBYibY9HBF4IB9L50E7WzTvAL9p4E40FOG8P9lrgmrPdW430l~ykUUiA3mbDaQy0TVG8pylIkU4wNQ3y1F4h_wugEBFL0KG7ATIh5~awLwGBnUi7GQC9ZMt3L_0gN0kj4lQN7392rMo_U2Xd6dLjwvU_IBC3mGAK9qpdpwFPPOZaPyZucA9BZjpWYDKT5tqufcOA4skE67p17Z0DXr"
set_option compiler.extract_closed false
local macro_rules | `(tactic| trivial) => `(tactic| first | rfl | exact .inl rfl | exact .inr rfl | exact .inr (.inl rfl) | decide +kernel | (intro _; rfl) | omega | exact ⟨rfl,rfl,rfl,by decide +kernel,rfl,by decide +kernel,by decide +kernel⟩ | (intro _ _ _ _ _ _ us hl; rcases us with _|⟨_,_|⟨_,_|⟨_,_|⟨_,_|⟨_,_|⟨_,_⟩⟩⟩⟩⟩⟩ <;> first | rfl | cases hl) | (intro _ _ _ _ h; cases h; subst_vars; rfl))
set_option hygiene false in
local macro_rules | `(tactic| ac_rfl) => `(tactic| ((try dsimp only);first|assumption|exact Inv.tk (by assumption)|exact Nat.succ_pos _|exact Nat.lt_of_lt_of_le (Inv.tk (by assumption)) (by assumption)|exact Nat.add_pos_left (Inv.tk (by assumption)) _|omega))
local macro_rules | `(()) => `(by trivial)
local macro_rules | `(#[$f:ident,$n:num,$xs,*]) => do let h ← `(_); let b ← `(by trivial); let mut a := Array.replicate n.getNat h; for x in xs.getElems do { match x.raw.isNatLit? with | some k => a := a ++ Array.replicate k h | none => a := a.push (if x.raw.isOfKind ``Lean.Parser.Term.hole then b else x) }; `(@$f $a*)
local macro_rules | `(⟨$xs,*⟩) => do let h ← `(_); let r ← `(rfl); let mut a := #[]; let mut c := false; for x in xs.getElems do { match x.raw.isNatLit? with | some 0 => { a := (a.push h).push r; c := true } | some _ => { a := a.push r; c := true } | none => a := a.push x }; if c then `(⟨$a,*⟩) else Lean.Macro.throwUnsupported
set_option hygiene false
local macro_rules | `(#v[$xs,*]) => do let mut r ← `(qf); for x in xs.getElems.reverse do { r ← `(#[qd,5,$x,$r,_]) }; return r
local macro_rules | `(%[$xs,*|$k]) => do let mut r ← `(#[qg,3,$k]); for x in xs.getElems.reverse do { r ← `(#[qe,5,$x,$r]) }; return r
local macro_rules|`(#[Zm,$a,$b])=>`(#[Zm,7,$a,$b])|`(#[Qz,$a])=>`(#[Qz,4,$a])|`(#[Qq,$a])=>`(#[Qq,3,$a,_])|`(#[qz,$a,$b,$c,$d])=>`(#[qz,9,$a,_,$b,$c,$d,_,_,_,_])|`(#[Q7,$a,$b,$c])=>`(#[Q7,2,$a,2,_,$b,$c,rfl,_,_])|`(#[J6,$a])=>`(#[J6,4,$a])|`(#[qr,$a,$b,$c,$d])=>`(#[qr,8,$a,$b,$c,$d])|`(#[kG,$a])=>`(#[kG,4,_,$a,_])|`(#[qu,$a])=>`(#[qu,4,$a])|`(#[jV,$a,$b,$c])=>`(#[jV,8,uT,rfl,$a,$b,$c,_])|`(#[qV,$a,$b])=>`(#[qV,2,$a,1,$b,rfl,Or.inl rfl,_])|`(#[qE,$a,$b,$c])=>`(#[qE,2,$a,4,$b,rfl,Or.inl rfl,$c,_,_])|`(#[QK,$a])=>`(#[QK,4,$a])|`(#[qG,$a])=>`(#[qG,5,$a])|`(#[Xm,$a,$b])=>`(#[Xm,6,uT,$a,$b])|`(#[qQ,$a,$b,$c])=>`(#[qQ,7,$a,$b,$c,(λ_ _=>rfl)])|`(#[Qa,$a])=>`(#[Qa,4,$a,_])|`(#[YR,$a,$b,$c,$d,$e,$f])=>`(#[YR,12,$a,$b,$c,$d,$e,$f,_,_,_,_,_])|`(#[zw,$a,$b,$c,$d,$e,$f])=>`(#[zw,2,$a,(1),$b,9,$c,rfl,$d,$e,(λ_ _ _ _ _ _=> @yN _),$f,_])|`(#[qX,$a,$b,$c])=>`(#[qX,8,$a,$b,$c])|`(#[qI,$a,$b,$c])=>`(#[qI,8,$a,$b,$c])|`(#[qt,$a,$b,$c:ident,$d])=>`(#[qt,16,$a,$b,_,$(Lean.mkIdent (c.getId++`m)),$(Lean.mkIdent (c.getId++`F.kp)),$(Lean.mkIdent (c.getId++`b)),.nil,qB,$d,_,_,_])|`(#[YE,$a,$b,$c,$d])=>`(#[YE,8,$a,$b,$c,$d])|`(#[yb,$a,$b,$c])=>`(#[yb,8,$a,$b,$c])|`(#[pe_gR,$a])=>`(#[pe_gR,4,_,$a,_])|`(#[qY,$a,$b,$c,$d])=>`(#[qY,9,$a,_,$b,$c,$d,_,_,_,_])|`(#[wm,$a])=>`(#[wm,3,$a])|`(#[WR,$a])=>`(#[WR,4,$a])|`(#[QJ,$a,$b])=>`(#[QJ,6,Q5 hr,$a,$b,(λ_ _=>rfl)])|`(#[pe_one,$a])=>`(#[pe_one,5,$a])|`(#[Qd,$a])=>`(#[Qd,8,pv 0,$a,rfl])|`(#[xz,$a,$b])=>`(#[xz,9,Q5 hr,#[qN,5,pv 0,rfl],$a,$b,rfl])|`(#[Qm,$a,$b,$c:ident,$d,$e])=>`(#[Qm,20,$a,$b,$(Lean.mkIdent (c.getId++`h)),$d,hr.mono (),$(Lean.mkIdent (c.getId++`b)),.nil,qB,$e,_,_,_])|`(#[yc,$a,$b,$c:ident,$d])=>`(#[yc,17,$a,$b,$(Lean.mkIdent (c.getId++`h)),$d,hr.mono (),$(Lean.mkIdent (c.getId++`b)),.nil,qB,_])|`(#[YA,$a])=>`(#[YA,6,_,T.jG,$a,_])|`(#[zm,$a,$b,$c,$d,$e:ident,$f,$g])=>`(#[zm,17,$a,$b,$c,_,$d,$(Lean.mkIdent (e.getId++`b)),.nil,$f,$g,_,_,_])|`(#[w])=>`((by with_unfolding_all rfl))|`(#[X,X])=>`((model X.prog X.w))|`(#[w,w])=>`((model prog w))|`(#[Y,$a,$b])=>`((⟨$a,$b⟩:Sy.Ss (SyP qs)))|`(#[K,$a,$b,$c,$d,$e])=>`(FnOk P w K mg base CX0 $a $b $c $d $e)|`(#[K,$s:str])=>`((PySem.W.nsIn K mainGlobals $s))|`(#[K,$x,$s:str])=>`((PySem.W.findIn K (.ref $x) $s=some none))|`(#[$f:ident,T])=>`($f (P:=P) (w:=w) (base:=base) T)|`(#[$f:ident,T,C])=>`($f (P:=P) (w:=w) (base:=base) T C)
local macro_rules|`(tactic|exists $es,*)=>do{let a:=es.getElems;match a[0]!.raw.isNatLit? with|some 6=>let x:Lean.Ident:=⟨a[1]!.raw⟩;let y:Lean.Ident:=⟨a[2]!.raw⟩;`(tactic|obtain ⟨$x:ident,$y:ident⟩:=$(a[3]!) X G $(a[4]!) $(a[5]!) (by rfl'))|some 7=>`(tactic|try dsimp only [cxOf,Cx.nox])|some 8=>let x:Lean.Ident:=⟨a[1]!.raw⟩;let y:Lean.Ident:=⟨a[2]!.raw⟩;`(tactic|refine qJ (fun $x $y=>?_))|some 9=>let x:=Lean.mkIdent (a[1]!.raw.getId++`F.ok);let y:Lean.Ident:=⟨(a.getD 3 (Lean.mkIdent `hr)).raw⟩;`(tactic|refine $x $(a[2]!) (by trivial) (λ_ _ _ s H _ Q E $y h=>?_))|_=>let h←`(?_);let b:=a.push h;`(tactic|refine ⟨$b,*⟩)}
set_option hygiene true
set_option hygiene false in
local macro_rules | `(tactic| rfl') => `(tactic| first | exact bo1 (fun _ _ _ _ _ _ _ => rfl) | exact bo2 (fun _ _ _ _ _ _ _ _ => rfl) | exact bo3 (fun _ _ _ _ _ _ _ _ _ => rfl) | exact bo4 (fun _ _ _ _ _ _ _ _ _ _ => rfl))
set_option hygiene false in
local macro_rules|`(tactic|erw [$rs,*])=>do{let rec f (e:Lean.Syntax):Nat->Lean.MacroM (Lean.TSyntax `Lean.Parser.Tactic.rcasesPatLo)|0=>`(Lean.Parser.Tactic.rcasesPatLo|_)|n+1=>do{if e.isIdent then{let x:Lean.Ident:=⟨e⟩;`(Lean.Parser.Tactic.rcasesPatLo|$x:ident)}else{match e with|`([$xs,*])=>do{let mut p:=#[];for x in xs.getElems do{p:=p.push (← f x n)};let q:=p;let t←`(rcasesPat|⟨$q,*⟩);`(Lean.Parser.Tactic.rcasesPatLo|$t:rcasesPat)}|_=>`(Lean.Parser.Tactic.rcasesPatLo|_)}};let mut p:=#[];let mut h:Array Lean.Term:=#[];for r in rs.getElems do{match r with|`(Lean.Parser.Tactic.rwRule|$e:term)=>{if h.size==0 then h:=h.push e else p:=p.push (← f e 9)}|_=>Lean.Macro.throwUnsupported};let q:=p;let g:=h[0]!;`(tactic|obtain ⟨$q,*⟩:=$g)}
local macro_rules|`([$a:term : $b:term])=>`(⟨$a,$b⟩)|`([$a:term : $b:term : $c:term])=>`(⟨$a,$b,$c⟩)
noncomputable section
set_option Elab.async false
set_option linter.all false
set_option maxRecDepth 100000
set_option maxHeartbeats 4000000
open PySem.W renaming Frag->o0,mg_of->uM,kia_one->vm,callWith_K->Uz
open PySem renaming Addr->o3,Value->o6,Shared->o7,Heap->o8,Program->o9,World->og,Around->oh,wpAny_bind->A4,wpAny_pure->uz,sizeLine_eq->uA,boot_len->uG,wpAny_with_toks->uX,wpAny_newObj_type->vj,wpAny_truthy_bool->vo,wpAny_field->vv,wpAny_callSpecial?_slot->vw,call_meets->vx,mem_of_lookup->vB,wpAny_mono->vG,typeIs_str->vI,wpAny_call_entry->vP,wpAny_passesOwn->vY,wpAny_seqItems->U7,tupleKind_room_in1->Uc,wpAny_setField_rec->Ue,wpAny_Call_Name_kw->Uy,wpAny_pyIter_list->UJ,wpAny_rule->UK,wpAny_isInstance->UP,wpAny->UW,FuncData->UX,sizeLine->UY,starEach->U_,cLine->V5,compareOp->V6,backTo->V8,IsPair->V9,model->Va,Scope->Vd,mainGlobals->Ve,sysModules->Vf,IsZip->Vk,codeAny->Vn,binaryOp->Vo,getItem->Vq,wpAny_holding->Vr,bindC->Vs,NameKind->Vt,bindL->Vu,IsPart->Vw,assignEach->VA,unsetMember->VB,sliceBounds->VC,atKey->VG,assign->VH,rawInt->VI,pyNext->VJ,valueAt->VM,callerA->VN,wpAny_typeOf->VO,field->VR,bindArgs->VS,holding->VV,Result->VX,stored->VZ,bootBuiltins->gO,DictEntry->gP,Model->gQ,BindsTo->gS,cellsFrom->gX,keywordEach->gZ,Builtin->g_,backToKw->G9,CmpOp->Gb,attributeBase->Gf,tupleKind->Gg,Keyword->Gh,standAt->Gi,behindInMarks->Gk,InCallC->Gq,strValues->Gu,subscripted->Gx,swapsWith->Gy,limitOf->GB,Operator->GC,wpAny_standAt->GD,wpAny_attempt->GE,letOwnedTupleGo->GF,codeAny_mono->GG,closureFor->GH,getMethod->GJ,operate->GK,newList->GM,pyIter->GP,wpAny_execs_nil->GV,Params->GW,cellOf->GX,storeName->G_,wpAny_load->hZ,typeLookup->Hc,wpAny_onRaise->Hk,builtinsNs->Hl,compEnvC->Ho,seqIndex_of->Hs,wpAny_newList->Hu,slicePick->Hv,plainId_quiet->Hx,evalPart_none->HB,codeAny_builtin->HD,wpAny_Name->HE,callWith->HF,leaving->HG,seqItems?->HH,wpAny_call->HI,PlainAttrs->HM,setItem->HQ,foldedSetIterable->HS,getAttr->HX,call_meetsIn->tj,seq_tuple_add->tF,strKind_is->tK,newFunctionEnv->tR,firstArgMember->tS,wpAny_of_eq->tT,seqIndex_neg->tU,noFill_tuple_add->tW,wpAny_pyIter_tuple->tY,inplaceOp->tZ,GenState->T2,concat_meets->T5,wpAny_notIn_of->T9,raiseAttrError->Tb,interactive->Tc,wpAny_comprehension_free->Tf,split_sep_max_tree->Ti,getattributeRaised->Tz,wpAny_execs_cons->TF,wpAny_storeName_local->TK,wpAny_sequenceKey->TN,wpAny_updateSeq_pair->TX,listOfItself->F0,IsRangeIter->Fb,wpAny_pyIter_zip->Fg,wpAny_Call_method->Fm,joinFit_length->Fp,meets_str_split_sep->Fq,wpAny_pyNext_list_item->Fs,typeLookup_type->Fw,wpAny_letGo->FD,wpAny_getItem_list_slice->FH,wpAny_setField->FJ,meets_str_split_not_found->FT,wpAny_mkText->FV,pushCells_keeps->FW,builtinLookup_eq_fast->r6,wpAny_loadName_local->rh,evalPart_some->rA,wpAny_isTrue_Compare1->rB,meets_str_split_cannot_occur->rC,wpAny_getItem_of->rD,boundAndCalled->rF,getAttrByItsOwn->rK,intBits_le_64->rM,wpAny_pyNext_list_end->rQ,wpAny_in_of->rT,wpAny_loadName_cell->rW,wpAny_Slice->rX,wpAny_throw->R7,callType_codes->R8,attributeErrorLeaves->R9,wpAny_assign_Name->Ra
open List renaming mem_cons->A5,mem_singleton->A6,mem_append->A7,mem_map->A8,mem_filter->A9,getElem?_eq_some_iff->Aa,length_map->ua,mem_cons_of_mem->uc,mem_cons_self->uf,getElem?_eq_getElem->ug,length_cons->ui,size_toArray->um,map_cons->uq,map_append->ur,length_append->uu,not_mem_nil->uC,getElem?_map->uF,mem_append_right->uI,map_map->uJ,getElem_mem->uQ,find?_cons->uS,length_singleton->uV,take_of_length_le->uZ,mem_of_getElem?->v5,append_nil->v6,lookup_cons->vc,mem_nil_iff->vd,drop_eq_getElem_cons->ve,mem_append_left->vg,all_cons->vn,take_add_one->vq,length_take->vy,length_drop->vz,filter_cons->vK,append_assoc->vL,filterMap_cons->vM,cons_append->vQ,map_nil->vR,mem_of_find?_eq_some->vW,nodup_nil->vX,filterMap_cons_some->vZ,nodup_cons->U1,all_map->U2,map_congr_left->U3,eq_nil_of_length_eq_zero->U4,all_eq_true->U5,take_length->U6,drop_of_length_le->U9,find?_eq_none->Uf,forIn_cons->Ui,length_filter_le->Uj,any_cons->Ul,sum_cons->Um,getElem?_append_right->Uo,getElem?_append_left->Ur,all_append->UD,filter_append->UF,getLast?_cons_cons->UH,reverse_cons->UN,range->V4,Nodup->Vi,lookup->Vj,getD->Vz,length->VP,range'->gT,mem_of_getLast?->gU,set->gY,find?_some->GR,map_id->GU,length_nil->h_,range_succ->Hq,of_mem_zip->Ht,perm_append_comm->Hy,take_append_drop->H_,any_map->tm,map->tu,range_succ_eq_map->tD,zipWith_cons_cons->tJ,mem_of_mem_drop->tP,drop_zero->T0,take_succ_cons->T1,any_eq_false->T4,length_replicate->T6,any_toArray->T7,zipIdx_nil->Ta,cons_lt_cons_iff->Tv,eq_nil_or_concat->Tw,find?_append->TB,getElem?_set_self->TD,nodup_append->TU,forIn_nil->Fa,getElem?_set_ne->Fc,zipIdx_cons->Fk,map_drop->Fn,mem_map_of_mem->Fo,any_eq_true->Fv,getElem?_replicate->Fy,replicate->Fz,concat_eq_append->FB,length_range->FK,getElem?_eq_none->FR,find?->FU,all_nil->rm,take_sublist->Rb,mem_cons->uB,mem_singleton->vT
open Bool renaming false_ne_true->u9,and_eq_true->uw,and_true->vE,eq_iff_iff->vF,false_eq_true->UA,and_self->UG,true->v_,false->UV,or_eq_true->hW,and_false->Hw,true_and->HK,or_eq_false_iff->HZ,and_assoc->Tp,not_eq_true'->TV,and_eq_false_iff->Fi,false_and->Ft,false_or->FN
open PySem.Heap renaming get?_push_of_some->ue,lt_size->uD,get?_push_size->uE,size_push->vk,SameBut->Gr,get?_update_self->Hm,get?_update_other->tt,FlyingW->Tu
open Nat renaming le_refl->uh,ne_of_lt->uN,le_trans->uO,zero_le->uU,lt_irrefl->vD,lt_of_le_of_lt->Ud,ne_of_gt->Uh,lt_or_ge->Uv,not_lt_zero->UI,le_of_lt->UO,le_add_right->UQ,log2_le_self->UR,lt_of_lt_of_le->V7,lt_trans->GQ,le_succ->Ha,le_total->HW,lt_succ_self->tE,succ->tG,succ_pos->tM,zero_add->t_,min_eq_left->TM,add_mul->Fd,add_zero->rc,le_of_eq->rq,one_mul->rJ,succ_le_succ->rP,eq_zero_or_pos->rY
open Option.some renaming inj->uH,injEq->RD
open PySem.F renaming plainAttrs_list->uK,plainAttrs_str->uP,slot_list_append->vh,type_list_append->vi,entry_str_split->vt,slot_str_split->vA,slot_tuple_iterator_next->vO,args_str_split_2->vS,slot_str_join->vU,type_str_join->vV,type_str_split->Ub,args_tuple_add_2->Uu,entry_tuple_add->UB,slot_str_split->Ua
open PySem.Around renaming in1_units->uR,under->Hn,under_plainId->HY
open PySem.PassesOwn renaming never->uT
open PyProof.Rows renaming boot_isinstance->uY,boot_tuple->vf,slot_tuple_getitem->vC,callWith_type1->vN,boot_str->Us,envOfC->V0,AllBare->Vv,IntsAre->gN,IsTup->gR,sortedS->Gj,tail_any->GO,subscriptTail->GS,Subscript_->Hb,StrsAre->HN,boot_all->tV,subscriptTail_builtinR->T8,isTrue_plain->TY,args_tuple_getitem->FL,entry_tuple_getitem->FY,tupleItemsOf_->rf,slicePart_none->rH,callWith_builtin1->Rz,iadd_int->RC
open Array renaming length_toList->vb,toList_append->Hr,append_assoc->HA,getElem?_toList->HP,size_append->tI,toList->Tq,size_push->Fj
open Option renaming isSome_none->vH,some->u_,none->UU,isNone->Gz,map_some->GL,map_eq_none_iff->Hz,isSome_map->HU,map->F_,getD_none->rG,isSome_some->rL
open Int renaming emod_lt_of_pos->vJ,emod_nonneg->U0,toNat_natCast->tN
open PySem.Calls renaming callWith_builtin->U8,evalArgs_plain->Uq,spliced_nil->tH,spliced_cons->tO,Name_function_global->R1,call_len_list->R6
open Sum.inr renaming inj->Ug
open Nat.le renaming dest->Uk
open Ne renaming symm->Up
open PySem.SeqAt.EqAt renaming int_str->Uw,str_int->Ux,str_str->UC,same->GZ,int_int->tL,str_tuple->Te,str_none->Tj,int_tuple->TC,tuple_str->TL,int_none->TR,of_refs->rn,tuple_int->rp,none_int->rR,none_str->rZ,none_bool->Rh,bool_bool->Rj,str_bool->Rl,none_tuple->Rq,int_bool->Rt,bool_str->Ru,tuple_none->RF,bool_int->RJ,bool_none->RK
open List.cons renaming injEq->UE
open PySem.SeqAt.RcAt renaming tuples->UL,tuple_str->Rg,str_str->Rm,str_tuple->Rx
open Sum renaming inr->UZ,inl->V_
open PySem.Value renaming ref->V1,str->Vh,none->Vy,int->VT,type->VY,bool->Hd,float->HR,bytes->FE,isInt->FS,isStrOf->rg
open PySem.Str renaming join->V2,length->Vx,ofString->G7,empty->HC
open ToString renaming toString->V3
open PySem.SeqAt renaming EqAt->Vb,RcAt->Tg,in_listAt->FC,in_tupleAt->rS,RcNeAt->rV
open PySem.NameKind renaming free->Vc,cell->VF
open PySem.Builtin.Str renaming strKind->Vg,occurrences->Gn
open PySem.Spec renaming ltCps->Vl
open False renaming elim->Vm
open True renaming intro->Vp
open ForIn renaming forIn->VD
open Or renaming inr->VL,inl->Ge
open PySem.Txt renaming startswith->VQ,slice->GN,slice_le->TQ
open PySem.StrLaws renaming occBody->VU,partsFrom->GT,glued_eq_join->To,strSub_toList->TW,joinTotal->Fu,occ_eq->FQ
open PySem.Builtin.SmallTypes renaming nextOf->VW,ownedTupleIsFree->GY,ownedTupleHandOut->Tl
open Unit renaming unit->gV
open ForInStep renaming yield->gW
open PySem.Builtin.Tuple renaming tupleExact->G6,tupleItemsOf->Ts,tupleIsExact->RI
open PyProof.Rows.IsTup renaming new->Gm
open PySem.Obj renaming mapSeq->Go,mapFields->FA,data_mapFields->r_
open PySem.Builtin.Slice renaming slicePlaces->hX,sliceAdjust->tQ,sliceApplied->rE,slicePartIndex->Re,sliceFields->Ro
open PySem.Builtin.List renaming listTooLong->HJ,listFitsIndex->Tt
open LawfulMonad renaming pure_bind->HL
open PySem.Code renaming isFrame->HV,frames->Ff
open List.Pairwise renaming nil->tX,map->Rk
open PySem.Walks renaming strWide->Td,strAscii->FI
open PySem.SeqAt.RcNeAt renaming tuples->Tn,str_tuple->T_,tuple_str->re,str_str->Ri,none_tuple->Rv,tuple_none->RA
open PySem.Heap.IsSliceOf renaming new->TH
open PySem.Builtin.Dict renaming updateFrom->TJ,selfAndRest->Rp
open List.Sublist renaming refl->f_,append->Rc,map->RB
open PySem.Shared renaming heap->Fe
open PySem.Heap.DictOf renaming new->FG
open Classical renaming choose_spec->FO
open PySem.DictEntry renaming refKey->FX
open PySem.Heap.SameBut renaming update->rN
open List.Nodup renaming sublist->rO
open Int.ofNat renaming inj->Rf
open PySem.AutoSeq1 renaming list_extend_list_list_0->Rr
open PySem.Heap.IsList renaming push->Rs
open PySem.Builtin.Range renaming rangeSize->Ry
open PySem.MeetsSeq renaming list_pop_last->RE
open PySem.Heap.Ns1 renaming of_empty->RG
open List.Perm renaming eq_of_pairwise->RH
noncomputable abbrev oj:=List
noncomputable abbrev om:=Option
noncomputable def A2:=@if_neg
noncomputable def A3:=@if_pos
noncomputable def ub:=@decide_eq_true
noncomputable def ud:=@decide_eq_false
noncomputable def uj:=@of_decide_eq_true
noncomputable def uL:=@or_false
noncomputable def uW:=@decide_eq_decide
noncomputable def v9:=@decide_eq_true_eq
noncomputable def Ut:=@beq_eq_false_iff_ne
noncomputable def UM:=@not_false_eq_true
noncomputable def US:=@not_or
noncomputable def UT:=@if_true
namespace L2
open PySem PySem.Spec PyProof.Rows
noncomputable abbrev Key:=Sum Int Str
noncomputable def keyIs:Key->o6->Bool
 | .inl k,v=>FS k v
 | .inr x,v=>rg x v
noncomputable def keyH (w:og):Key->Int
 | .inl k=>hashInt k
 | .inr x=>hashStr w x
theorem Qv:∀{k:Key}{v:o6},keyIs k v=v_->(∃i t,k=V_ i/\v=VT i t)∨(∃x t,k=UZ x/\v=Vh x t)
 | .inl i,v,h=>by
  erw[Value.isInt_shape (k:=i) (v:=v) h,t,e];exact .inl ⟨i,t,1,e⟩
 | .inr x,v,h=>by
  erw[Value.isStrOf_shape (x:=x) (v:=v) h,t,e];exact .inr ⟨x,t,1,e⟩
theorem keyIs_int (i:Int)(t:Tok):keyIs (.inl i) (.int i t)=true:=by simp [keyIs,FS]
theorem keyIs_str (x:Str)(t:Tok):keyIs (.inr x) (.str x t)=true:=by simp [keyIs,rg]
theorem key_ll (a b:Int):decide ((V_ a:Key)=V_ b)=(a==b):=by
 by_cases e:a=b
 ·subst e;simp
 ·have h:¬(V_ a:Key)=V_ b:=λq=>e (Sum.inl.inj q);rw [ud h];exact(beq_eq_false_iff_ne.mpr e).symm
theorem key_rr (a b:Str):decide ((UZ a:Key)=UZ b)=decide (a=b):=by
 by_cases e:a=b
 ·subst e;simp
 ·have h:¬(UZ a:Key)=UZ b:=λq=>e (Ug q);rw [ud h,ud e]
theorem key_lr (a:Int)(b:Str):decide ((V_ a:Key)=UZ b)=false:=ud (λq=>nomatch q)
theorem key_rl (a:Str)(b:Int):decide ((UZ a:Key)=V_ b)=false:=ud (λq=>nomatch q)
noncomputable def Qo (prog:o9)(w:og):PySem.KeyKind prog w Key where
 is:=keyIs
 hash:=keyH w
 inj:=λv a b ha hb=>by
  rcases Qv ha with⟨i,t,rfl,rfl⟩|⟨x,t,rfl,rfl⟩
  ·rcases Qv hb with⟨j,u,rfl,e⟩|⟨y,u,rfl,e⟩
   ·injection e with e1 _;rw [e1]
   ·exact nomatch e
  ·rcases Qv hb with⟨j,u,rfl,e⟩|⟨y,u,rfl,e⟩
   ·exact nomatch e
   ·injection e with e1 _;rw [e1]
 byValue:=λk v h=>by
  rcases Qv h with⟨i,t,rfl,rfl⟩|⟨x,t,rfl,rfl⟩<;>rfl
 pyHash:=λhv h=>by
  rcases Qv hv with⟨i,t,rfl,rfl⟩|⟨x,t,rfl,rfl⟩
  ·exact wpAny_pyHash_int h
  ·exact wpAny_pyHash_str h
 eqBool:=λhu hv h=>by
  rcases Qv hu with⟨i,t,rfl,rfl⟩|⟨x,t,rfl,rfl⟩
  ·rcases Qv hv with⟨j,u,rfl,rfl⟩|⟨y,u,rfl,rfl⟩
   ·rw [key_ll] at h;exact wpAny_eqBool_int h
   ·rw [key_lr] at h;exact Uw i t y u _ _ _ _ h
  ·rcases Qv hv with⟨j,u,rfl,rfl⟩|⟨y,u,rfl,rfl⟩
   ·rw [key_rl] at h;exact Ux x t j u _ _ _ _ h
   ·rw [key_rr] at h;exact wpAny_eqBool_str h
 «strs»:=λk x t v h=>by
  rcases Qv h with⟨i,u,rfl,e⟩|⟨y,u,rfl,e⟩
  ·exact nomatch e
  ·injection e with e1 _
   subst e1
   cases v<;>rfl
theorem mixKind_int (prog:o9)(w:og)(i:Int)(t:Tok):(Qo prog w).is (.inl i) (.int i t)=true:=keyIs_int i t
theorem Z7 (prog:o9)(w:og)(x:Str)(t:Tok):(Qo prog w).is (.inr x) (.str x t)=true:=keyIs_str x t
inductive V where
 |non|bl (b:Bool)|int (i:Int)|str (x:Str)|byt (b:Array UInt8)|flt (b:UInt64)|ref (a:Addr)|ty (n:String)
 deriving DecidableEq
noncomputable def RelV:V->o6->Prop
 | .non,u=>u=Vy
 | .bl b,u=>u=Hd b
 | .int i,u=>∃t,u=VT i t
 | .str x,u=>∃t,u=Vh x t
 | .byt b,u=>∃t,u=FE b t
 | .flt b,u=>∃t,u=HR b t
 | .ref a,u=>u=V1 a
 | .ty n,u=>u=VY n
noncomputable abbrev Vals:oj V->oj o6->Prop:=Paired RelV
variable {xs:oj V}{us:oj o6}
theorem Vals.length (r:Vals xs us):xs.length=us.length:=Paired.length r
theorem Vals.get:∀{xs:oj V}{us:oj o6}{i:Nat}{x:V},Vals xs us->xs[i]? =u_ x->∃u,us[i]? =u_ u/\RelV x u
 |_,_,_,_,.nil,e=>by simp at e
 |_,_,0,_,.cons r _,e=>by simp at e;subst e;exact[0:r]
 |_,_,i+1,x,.cons _ t,e=>by
  obtain⟨u,h1,h2⟩:=Vals.get (i:=i) (x:=x) t (by simpa using e)
  exact⟨u,by simpa using h1,h2⟩
theorem Vals.set {x:V}{u:o6}(r:RelV x u):∀{xs:oj V}{us:oj o6} (i:Nat),Vals xs us->Vals (xs.set i x) (us.set i u)
 |_,_,_,.nil=> .nil
 |_,_,0,.cons _ t=> .cons r t
 |_,_,i+1,.cons q t=> .cons q (Vals.set r i t)
theorem Vals.append:∀{xs ys:oj V}{us ws:oj o6},Vals xs us->Vals ys ws->Vals (xs++ys) (us++ws)
 |_,_,_,_,.nil,s=>s
 |_,_,_,_,.cons r t,s=> .cons r (Vals.append t s)
theorem Vals.take:∀{xs:oj V}{us:oj o6} (n:Nat),Vals xs us->Vals (xs.take n) (us.take n)
 |_,_,0,_=> .nil
 |_,_,_+1,.nil=> .nil
 |_,_,n+1,.cons r t=> .cons r (Vals.take n t)
theorem Vals.drop:∀{xs:oj V}{us:oj o6} (n:Nat),Vals xs us->Vals (xs.drop n) (us.drop n)
 |_,_,0,r=>r
 |_,_,_+1,.nil=> .nil
 |_,_,n+1,.cons _ t=>Vals.drop n t
noncomputable def RelO:om V->om o6->Prop
 |some v,u_ u=>RelV v u
 |none,UU=>True
 |_,_=>False
noncomputable def KV {κ:Type}:oj (κ×V)->oj (κ×o6)->Prop:=Paired λ(p:κ×V) (q:κ×o6)=>p.1=q.1/\RelV p.2 q.2
noncomputable def kV:Key->V
 | .inl i=> .int i
 | .inr x=> .str x
inductive HO where
 |lst (xs:List V)
 |tup (xs:List V)
 |dK (kvs:List (Key×V))|dT (kvs:List (List Key×V))
 |set (S:Int->Bool) (n:Nat)
 |ins (C dx:Addr) (fs:List (Str×V))
 |own (x:Addr)
 |xd (fs:List (Str×V))
 |met (f x:Addr)
 |rng (lo hi:Int)
 |frz (o:Obj) (u:HO)
 |tbl (ps:Array Value)
 |ext (φ:Heap->Prop)
noncomputable abbrev Hp:=o3->om HO
noncomputable def upd (H:Hp)(a:o3)(o:HO):Hp:=λb=>if b=a then u_ o else H b
variable {H:Hp}{a:o3}
theorem qi {o:HO}:upd H a o a=u_ o:=by unfold upd;rw [A3 rfl]
variable {b:o3}
theorem qk {o:HO}(h:b≠a):upd H a o b=H b:=by unfold upd;rw [A2 h]
theorem ne_of {o u:HO}(h:H a=u_ o)(h':H b=u_ u)(d:o≠u):a≠b:=by
 intro e;subst e;rw [h] at h';exact d (uH h')
theorem ql {o:HO}(h:H a=u_ o)(h':H b=UU):a≠b:=by
 intro e;subst e;rw [h] at h';cases h'
section
variable (P:o9)(w:og)
noncomputable def yp (H:Hp)(h:o8)(a:o3):HO->Prop
 | .lst xs=>xs.length<=UY/\∃(its:oj o6) (n:Nat),Vals xs its/\h.get? a=u_ {cls:= .type "list",data:= .seq its.toArray n}
 | .tup xs=>xs.length<=UY/\∃its:oj o6,Vals xs its/\gR h a its.toArray
 | .dK kvs=>kvs.length<=UY/\(a==Vf)=UV/\∃vs,KV kvs vs/\h.DictOf (Qo P w) a vs
 | .dT kvs=>kvs.length<=UY/\(a==Vf)=UV/\∃xs:oj (oj Key×o3×o6),
   Paired (λ(p:oj Key×V) (q:oj Key×o3×o6)=>p.1=q.1/\H q.2.1=u_ (.tup (p.1.map kV))/\RelV p.2 q.2.2) kvs xs/\
   ∃o es ep,h.get? a=u_ o/\o.ExactDict/\o.data= .dict es ep/\es.toList=xs.map (entryOfKey (Gg (Qo P w)))/\(xs.map (·.1)).Nodup
 | .set S n=>h.SetOf (intKind P w) a S n
 | .ins C dx fs=>H dx=u_ (.own a)/\fs.length<=1000/\dx≠a/\h.get? a=u_ (PySem.W.instObj C dx)/\
   ∃mA,h.Ns1 dx mA/\(∀f,RelO (fs.lookup f) (mA f))/\PySem.Within mA (fs.map (·.1))
 | .own _=>∃o,h.get? a=u_ o
 | .xd fs=>∃mA,h.Ns1 a mA/\∀f,RelO (fs.lookup f) (mA f)
 | .rng lo hi=>∃t u v,h.get? a=u_ {cls:= .type "range",data:= .fields #[.int lo t,.int hi u,.int 1 v]}
 | .frz o u=>h.get? a=u_ o/\yp H h a u
 | .tbl ps=>h.get? a=u_ {cls:= .none,data:= .fields ps}
 | .met f x=>h.get? a=u_ (PySem.W.methodObj (.ref f) (.ref x))
 | .ext φ=>φ h/\(∃o,h.get? a=u_ o)/\∀h1 h2:o8,φ h1->(∀o,h1.get? a=u_ o->h2.get? a=u_ o)->φ h2
noncomputable def HOk (H:Hp)(h:o8):Prop:=∀a o,H a=u_ o->yp P w H h a o
end
section
variable {P:o9}{w:og}{H H':Hp}{h h':o8}{a:o3}{o:HO}
theorem yp.lt (x:yp P w H h a o):a<h.objs.size:=by
 cases o with
 |lst xs=>erw[x,_,_,_,_,e];exact uD e
 |tup xs=>erw[x,_,_,_,p];exact p.lt
 |dK kvs=>erw[x,_,_,_,_,o,_,_,e,_];exact uD e
 |dT kvs=>erw[x,_,_,_,_,o,_,_,e,_];exact uD e
 |set S n=>erw[x,o,_,_,_,e,_];exact uD e
 |ins C dx fs=>erw[x,_,_,_,e,_];exact uD e
 |own y=>erw[x,_,e];exact uD e
 |xd fs=>erw[x,_,[_,_,_,e,_],_];exact uD e
 |rng lo hi=>erw[x,_,_,_,e];exact uD e
 |frz ob u=>erw[x,e,_];exact uD e
 |tbl ps=>exact uD (show h.get? a=u_ _ from x)
 |met f y=>exact uD (show h.get? a=u_ _ from x)
 |ext φ=>erw[x,_,[_,e],_];exact uD e
theorem Paired.mapP {α β:Type}{F G:α->β->Prop}:∀{l₁:oj α}{l₂:oj β},Paired F l₁ l₂->(∀a b,F a b->G a b)->Paired G l₁ l₂
 |_,_,.nil,_=> .nil
 |_,_,.cons r t,f=> .cons (f _ _ r) (Paired.mapP t f)
theorem yp.stay (x:yp P w H h a o)(k:∀b u,(b=a∨H b=u_ (.own a))->h.get? b=u_ u->h'.get? b=u_ u)
  (O:∀b,H b=u_ (.own a)->H' b=u_ (.own a)) (U:∀b xs,H b=u_ (.tup xs)->H' b=u_ (.tup xs)):yp P w H' h' a o:=by
 induction o with
 |lst xs=>erw[x,z,its,n,r,e];exact⟨z,its,n,r,k _ _ (.inl rfl) e⟩
 |tup xs=>erw[x,z,its,r,ob,e,c];exact⟨z,its,r,ob,k _ _ (.inl rfl) e,c⟩
 |dK kvs=>erw[x,z,y,vs,r,ob,es,ep,e,c];exact⟨z,y,vs,r,ob,es,ep,k _ _ (.inl rfl) e,c⟩
 |dT kvs=>
  erw[x,z,y,xs,r,ob,es,ep,e,c];exact⟨z,y,xs,Paired.mapP r λp q z=>[z.1:U _ _ z.2.1:z.2.2],ob,es,ep,k _ _ (.inl rfl) e,c⟩
 |set S n=>erw[x,ob,es,ep,t,e,c];exact⟨ob,es,ep,t,k _ _ (.inl rfl) e,c⟩
 |ins C dx fs=>
  erw[x,d,z,ne,e,mA,[od,es,ep,Z,c],r];exact⟨O _ d,z,ne,k _ _ (.inl rfl) e,mA,⟨od,es,ep,k _ _ (.inr d) Z,c⟩,r⟩
 |own y=>erw[x,ob,e];exact[ob:k _ _ (.inl rfl) e]
 |xd fs=>erw[x,mA,[od,es,ep,e,c],r];exact[mA:⟨od,es,ep,k _ _ (.inl rfl) e,c⟩:r]
 |rng lo hi=>erw[x,t,u,v,e];exact⟨t,u,v,k _ _ (.inl rfl) e⟩
 |frz ob u ih=>erw[x,e,q];exact[k _ _ (.inl rfl) e:ih q]
 |tbl ps=>
  have e:h.get? a=u_ {cls:= .none,data:= .fields ps}:=x;show h'.get? a=u_ {cls:= .none,data:= .fields ps};exact k a _ (.inl rfl) e
 |met f y=>
  have e:h.get? a=u_ (PySem.W.methodObj (.ref f) (.ref y)):=x;show h'.get? a=u_ (PySem.W.methodObj (.ref f) (.ref y));exact k a _ (.inl rfl) e
 |ext φ=>erw[x,p,[o,e],st];exact[st _ _ p λo q=>k _ _ (.inl rfl) q:[o:k _ _ (.inl rfl) e]:st]
theorem HOk.lt (x:HOk P w H h)(e:H a=u_ o):a<h.objs.size:=(x a o e).lt
theorem HOk.fresh (x:HOk P w H h)(e:h.objs.size<=a):H a=none:=by
 cases q:H a with
 |none=>rfl
 |some u=>exact absurd (V7 (x.lt q) e) (vD _)
theorem HOk.kept (x:HOk P w H h)(k:∀b u,h.get? b=u_ u->h'.get? b=u_ u):HOk P w H h':=λa o e=>
 (x a o e).stay (λb u _ q=>k b u q) (λ_ q=>q) λ_ _ q=>q
theorem HOk.laid (x:HOk P w H h)(k:∀b u,h.get? b=u_ u->h'.get? b=u_ u)(U:h.objs.size<=a)(new:yp P w (upd H a o) h' a o):HOk P w (upd H a o) h':=λb u e=>by
 have hn:=x.fresh U;by_cases O:b=a
 ·subst O;rw [qi] at e;cases e;exact new
 ·rw [qk O] at e;exact(x b u e).stay (λc v _ q=>k c v q) (λc q=>by rwa [qk (ql q hn)]) λc xs q=>by rw [qk (ql q hn)];exact q
end
noncomputable def Rd (H:Hp)(a:o3)(u:HO):Prop:=H a=u_ u∨∃o,H a=u_ (.frz o u)
theorem Rd.of {u:HO}(h:H a=u_ u):Rd H a u:= .inl h
variable {w:og}{h:o8}
theorem Rd.ok {P:o9}{u:HO}(r:Rd H a u)(x:HOk P w H h):yp P w H h a u:=by
 rcases r with r|⟨o,r⟩
 ·exact x a u r
 ·erw[x a _ r,_,q];exact q
noncomputable def Mut:om HO->Prop
 |some (.lst _)=>True
 |some (.dK _)=>True
 |some (.dT _)=>True
 |some (.set _ _)=>True
 |some (.ins _ _ _)=>True
 |some (.ext _)=>True
 |_=>False
section
variable {P:o9}{w:og}{H:Hp}{h h':o8}{x e:o3}{o':HO}
theorem HOk.write (ok:HOk P w H h)(mu:Mut (H x))(he:e=x∨H e=u_ (.own x))(k:∀b u,b≠e->h.get? b=u_ u->h'.get? b=u_ u)(aa:∃u,h'.get? e=u_ u)
  (new:yp P w (upd H x o') h' x o'):HOk P w (upd H x o') h':=λb u q=>by
 have U:∀c y,H c=u_ (.own y)->c≠x:=λc y r z=>by subst z;rwa [r] at mu
 have Z:∀c xs,H c=u_ (.tup xs)->c≠x:=λc xs r z=>by subst z;rwa [r] at mu
 by_cases hb:b=x
 ·subst hb;rw [qi] at q;cases q;exact new
 ·rw [qk hb] at q;by_cases O:b=e
  ·have q':H b=u_ (.own x):=by
    rcases he with z|z
    ·exact absurd (O.trans z) hb
    ·rwa [O]
   rw [q] at q';cases q';erw[aa,v,hv];exact⟨v,by rwa [O]⟩
  ·refine(ok b u q).stay (λc v hc r=>k c v ?_ r) (λc r=>by rwa [qk (U c b r)]) λc xs r=>by rwa [qk (Z c xs r)]
   rcases hc with rfl|hc
   ·exact O
   ·rintro rfl;rcases he with z|z
    ·exact U c b hc z
    ·rw [hc] at z;cases z;exact hb rfl
end
structure Un (fs ex:oj o3)(H H':Hp)(h h':o8):Prop where
 keep:∀b o,h.get? b=u_ o->H b=UU->b∉fs->b∉ex->h'.get? b=u_ o
 slot:∀b o,h.get? b=u_ o->H b=UU->b∈fs->b∉ex->∃sl,h'.get? b=u_ {o with slots:=sl}
 free:∀b o,h.get? b=u_ o->H b=UU->b∉ex->H' b=UU
 there:∀b o,h.get? b=u_ o->b∉ex->∃o',h'.get? b=u_ o'
 tups:∀b xs,H b=u_ (.tup xs)->H' b=u_ (.tup xs)
 frzs:∀b o u,H b=u_ (.frz o u)->H' b=u_ (.frz o u)
 tbls:∀b ps,H b=u_ (.tbl ps)->∃more,H' b=u_ (.tbl (ps++more))
section
variable {fs fs' ex ex':oj o3}{H H1 H2:Hp}{h h1 h2 h':o8}{a x e:o3}{o:HO}
theorem Un.any (u:Un fs ex H H1 h h1){ob:Obj}(q:h.get? b=u_ ob)(n:H b=UU)(O:b∉ex):∃sl,h1.get? b=u_ {ob with slots:=sl}:=by
 by_cases U:b∈fs
 ·exact u.slot b ob q n U O
 ·exact[ob.slots:u.keep b ob q n U O]
theorem Un.trans (a:Un fs ex H H1 h h1)(b:Un fs ex H1 H2 h1 h2):Un fs ex H H2 h h2 where
 keep:=λc ob q n Z O=>b.keep c ob (a.keep c ob q n Z O) (a.free c ob q n O) Z O
 slot:=λc ob q n Z O=>by
  erw[a.slot c ob q n Z O,sl,U];erw[b.slot c _ U (a.free c ob q n O) Z O,aa,e2];exact[aa:e2]
 free:=λc ob q n O=>by
  erw[a.there c ob q O,o',U];exact b.free c o' U (a.free c ob q n O) O
 there:=λc ob q O=>by
  erw[a.there c ob q O,o',U];exact b.there c o' U O
 tups:=λc xs q=>b.tups c xs (a.tups c xs q)
 frzs:=λc ob xs q=>b.frzs c ob xs (a.frzs c ob xs q)
 tbls:=λc ps q=>by
  erw[a.tbls c ps q,m1,U];erw[b.tbls c _ U,m2,e2];exact⟨m1++m2,by rw [e2,HA]⟩
theorem Un.kept (k:∀b u,h.get? b=u_ u->h'.get? b=u_ u):Un fs ex H H h h':=
 ⟨λb ob q _ _ _=>k b ob q,λb ob q _ _ _=>[ob.slots:k b ob q],λ_ _ _ n _=>n,λb ob q _=>[ob:k b ob q],λ_ _ q=>q,λ_ _ _ q=>q,λ_ ps q=>⟨#[],by rw [q];simp⟩⟩
theorem Un.refl:Un fs ex H H h h:=Un.kept λ_ _ q=>q
theorem Un.laid (k:∀b u,h.get? b=u_ u->h'.get? b=u_ u)(O:h.objs.size<=a)(hn:H a=UU):Un fs ex H (upd H a o) h h' where
 keep:=λb u q _ _ _=>k b u q
 slot:=λb u q _ _ _=>[u.slots:k b u q]
 free:=λb u q n _=>by rwa [qk (uN (V7 (uD q) O))]
 there:=λb u q _=>[u:k b u q]
 tups:=λb xs q=>by rwa [qk (ql q hn)]
 frzs:=λb u xs q=>by rwa [qk (ql q hn)]
 tbls:=λb ps q=>⟨#[],by rw [qk (ql q hn),q];simp⟩
theorem Un.write (mu:Mut (H x))(he:e=x∨H e=u_ (.own x))(k:∀b u,b≠e->h.get? b=u_ u->h'.get? b=u_ u)(U:∃u,h'.get? e=u_ u):Un fs ex H (upd H x o) h h':=by
 have Z:∀b,H b=UU->b≠x:=λb n z=>by subst z;rwa [n] at mu
 have hb:∀b,H b=UU->b≠e:=λb n z=>by
  subst z;rcases he with r|r
  ·exact Z b n r
  ·rw [n] at r;cases r
 have hm:∀b u,H b=u_ u->¬Mut (u_ u)->b≠x:=λb u q nm z=>by subst z;rw [q] at mu;exact nm mu
 refine⟨λb u q n _ _=>k b u (hb b n) q,λb u q n _ _=>[u.slots:k b u (hb b n) q],λb u q n _=>by rwa [qk (Z b n)],λb u q _=> ?_,
  λb xs q=>by rwa [qk (hm b _ q λz=>z)],λb u xs q=>by rwa [qk (hm b _ q λz=>z)],λb ps q=>⟨#[],by rw [qk (hm b _ q λz=>z),q];simp⟩⟩
 by_cases O:b=e
 ·subst O;exact U
 ·exact[u:k b u O q]
end
noncomputable def trk (h:o8)(H:Hp):oj o3:=(V4 h.objs.size).filter λa=>(H a).isSome
noncomputable def hidT (h:o8)(H:Hp):o8:=PySem.W.hideAll h (trk h H)
theorem hidT_size (h:o8)(H:Hp):(hidT h H).objs.size=h.objs.size:=PySem.W.hideAll_size _ _
variable {o:Obj}
theorem hidT_get (e:h.get? b=u_ o)(n:H b=UU):(hidT h H).get? b=u_ o:=
 PySem.W.hideAll_get _ e λhm=>by
  have q:(H b).isSome=true:=(A9.mp hm).2;rw [n] at q;simp at q
theorem of_hidT (e:(hidT h H).get? b=u_ o):h.get? b=u_ o/\H b=none:=by
 have O:h.get? b=u_ o:=PySem.W.of_hideAll (trk h H) e;exists O;cases q:H b with
 |none=>rfl
 |some x=>
  have hm:b∈trk h H:=A9.mpr ⟨List.mem_range.mpr (uD O),by simp [q]⟩
  have z:(hidT h H).get? b=none:=PySem.W.hideAll_none (trk h H) hm;rw [z] at e;cases e
structure Mod (K:o0)(mg:Str->om o6)(base:o8):Prop where
 kin:K.In base
 glob:base.Ns Ve mg
 blt:∃mb,base.Ns Hl mb/\∀x:Str,x≠"__name__"->mb x=gO x
 nolimit:base.NoLimit
structure Cx where
 prog:o9
 w:og
 K:o0
 mg:Str->om o6
 base:o8
 A:oh
 N:oj Str
 s₀:o7
 H₀:Hp
 env:Env
 outer:oj Env
 stack:oj Env
 ex:oj o3
 fn:Str->Bool
 calm:Bool
 pn:oj (o3×Obj)
 xe:o6->o7->Prop
noncomputable def frs (l:oj Env):oj o3:=l.filterMap (·.frame)
noncomputable abbrev Cx.fs (X:Cx):oj o3:=frs X.outer
noncomputable def Vis (sc:Vd)(x:Str):Prop:=sc.names.lookup x=u_ .local∨sc.names.lookup x=u_ .cell∨sc.names.lookup x=u_ .free
noncomputable def Loc (sc:Vd)(x:Str):Prop:=sc.names.lookup x=u_ .local∨sc.names.lookup x=u_ .cell
noncomputable def Look (env:Env)(h:o8)(m:Str->om o6)(x:Str)(u:o6):Prop:=
 (env.kindOf x=u_ .local/\m x=u_ u)∨((env.kindOf x=u_ .cell∨env.kindOf x=u_ .free)/\∃c,env.cells.lookup x=u_ c/\h.IsCell c (u_ u))
structure Cx.Ok (X:Cx):Prop where
 mod:Mod X.K X.mg X.base
 kind:X.env.scope.kind= .function
 glob:X.env.globals=Ve
 blt:X.env.builtins=Hl
 above:X.s₀.heap.objs.size<=X.env.locals
 inj:∀x y c,X.env.cells.lookup x=u_ c->X.env.cells.lookup y=u_ c->x=y
 has:∀x,(X.env.kindOf x=u_ .cell∨X.env.kindOf x=u_ .free)->∃c,X.env.cells.lookup x=u_ c
 cab:∀x c,X.fn x=v_->X.env.cells.lookup x=u_ c->X.s₀.heap.objs.size<=c
 hd:X.calm=v_->X.A.handled=UU
 frames:X.A.frames=u_ X.stack
 stk:X.stack=X.outer∨(X.stack=X.env::X.outer/\X.env.frame=u_ X.env.locals)
 exf:∀b∈X.ex,b≠X.env.locals/\∀x c,X.env.cells.lookup x=u_ c->c≠b
 bs:∀b o,X.base.get? b=u_ o->X.s₀.heap.get? b=u_ o/\X.H₀ b=UU
 bsz:X.base.objs.size<=X.s₀.heap.objs.size
 noex:∀b o,X.base.get? b=u_ o->b∉X.ex
 exfs:∀b∈X.ex,b∉X.fs
 funs:X.s₀.heap.FunFrames X.base X.outer
 frf:∀b∈X.fs,X.H₀ b=UU
structure Inv (X:Cx)(oq:oj (o3×Obj))(σ:oj (om V))(H:Hp)(s:o7):Prop where
 ok:X.Ok
 os:s.os=X.s₀.os
 bare:Vv s.gens
 base:Un X.fs X.ex X.H₀ H X.s₀.heap s.heap
 loc:∃m,s.heap.Ns X.env.locals m/\∀(i:Nat) (x:Str) (v:V),X.N[i]? =u_ x->σ[i]? =u_ (u_ v)->Vis X.env.scope x->∃u,RelV v u/\Look X.env s.heap m x u
 cell:∀x c,X.env.cells.lookup x=u_ c->∃v,s.heap.IsCell c v
 free:H X.env.locals=UU
 freeC:∀x c,X.env.cells.lookup x=u_ c->H c=UU
 pin:∀p∈X.pn++oq,s.heap.get? p.1=u_ p.2/\H p.1=UU/\p.1≠X.env.locals/\p.1∉X.fs/\∀v,p.2.data≠ .cell v
 hok:HOk X.prog X.w H s.heap
 len:σ.length=X.N.length
 tk:0<s.toks
section
variable {X:Cx}{oq:oj (o3×Obj)}{σ:oj (om V)}{H H':Hp}{s:o7}{h':o8}
theorem Cx.Ok.nofr (ok:X.Ok)(e:X.base.get? b=u_ o):b∉X.fs:=λO=>by
 have:=(ok.funs.mem O).1;rw [e] at this;cases this
theorem Inv.bs (I:Inv X oq σ H s):∀b o,X.base.get? b=u_ o->s.heap.get? b=u_ o/\H b=none:=λb o e=>
 [I.base.keep b o (I.ok.bs b o e).1 (I.ok.bs b o e).2 (I.ok.nofr e) (I.ok.noex b o e):I.base.free b o (I.ok.bs b o e).1 (I.ok.bs b o e).2 (I.ok.noex b o e)]
theorem Inv.bk (I:Inv X oq σ H s):∀b o,X.base.get? b=u_ o->s.heap.get? b=u_ o:=λb o e=>(I.bs b o e).1
theorem Inv.mod (I:Inv X oq σ H s):Mod X.K X.mg X.base:=I.ok.mod
theorem Inv.kIn (I:Inv X oq σ H s):X.K.In s.heap:=I.ok.mod.kin.keeps I.bk
theorem Inv.lt (I:Inv X oq σ H s):X.env.locals<s.heap.objs.size:=let⟨_,hn,_⟩:=I.loc;hn.lt
theorem Inv.sz (I:Inv X oq σ H s):X.s₀.heap.objs.size<=s.heap.objs.size:=uO I.ok.above (UO I.lt)
theorem Inv.nofs (I:Inv X oq σ H s)(h:s.heap.objs.size<=a):a∉X.fs:=λO=>by
 erw[I.ok.funs.mem O,_,o,U,_];exact absurd (V7 (uD U) (uO I.sz h)) (vD _)
theorem Inv.cne (I:Inv X oq σ H s):∀x c,X.env.cells.lookup x=u_ c->c≠X.env.locals:=λx c e z=>by
 erw[I.cell x c e,v,o,Z,hd];erw[I.loc,m,[o',es,ep,O,U,_],_];rw [z,O] at Z;cases Z;rw [U] at hd;cases hd
theorem Inv.funs (I:Inv X oq σ H s):s.heap.FunFrames X.base X.outer:=by
 have all:∀(l:oj Env),(∀b∈frs l,b∈X.fs)->X.s₀.heap.FunFrames X.base l->s.heap.FunFrames X.base l:=by
  intro l
  induction l with
  |nil=>intro _ _;trivial
  |cons env r ih=>
   intro hs hl;erw[hl,hk,[L,o,O,hn,ho,hd],hr];have U:L∈X.fs:=hs L (by unfold frs;rw [vM,O];exact uf)
   obtain⟨sl,e⟩:=I.base.slot L o ho (I.ok.frf L U) U λz=>I.ok.exfs L z U;exact⟨hk,⟨L,_,O,hn,e,hd⟩,ih (λb Z=>hs b (by unfold frs;rw [vM,O];exact uc _ Z)) hr⟩
 exact all X.outer (λ_ Z=>Z) I.ok.funs
theorem Inv.stack (I:Inv X oq σ H s):s.heap.FunFrames X.base X.stack:=by
 rcases I.ok.stk with e|⟨e,O⟩
 ·rw [e];exact I.funs
 ·rw [e];erw[I.loc,m,hn,_];refine .cons (by rw [I.ok.kind];decide) O hn ?_ I.funs
  exact Heap.get?_none_of_le (uO I.ok.bsz I.ok.above)
theorem Inv.stkSub (I:Inv X oq σ H s):∀b∈frs X.stack,b∈X.env.locals::X.fs:=λb O=>by
 rcases I.ok.stk with e|⟨e,U⟩
 ·rw [e] at O;exact uc _ O
 ·rw [e] at O;unfold frs at O;rwa [vM,U] at O
theorem Inv.stkFree (I:Inv X oq σ H s):∀b∈frs X.stack,H b=none:=λb O=>by
 rcases A5.mp (I.stkSub b O) with e|O
 ·rw [e];exact I.free
 ·erw[I.ok.funs.mem O,_,o,U,_];exact I.base.free b o U (I.ok.frf b O) λz=>I.ok.exfs b z O
theorem Inv.step {g':Array T2}{t':Nat}{d':Drawn}{ch:oj o3}(I:Inv X oq σ H s)
  (U:∀b∈ch,(b∈X.ex∨X.s₀.heap.objs.size<=b)/\b≠X.env.locals/\(∀x c,X.env.cells.lookup x=u_ c->c≠b)/\∀p∈X.pn++oq,p.1≠b)
  (keep:∀b o,b≠X.env.locals->b∉X.fs->b∉ch->s.heap.get? b=u_ o->H b=UU->h'.get? b=u_ o)
  (slot:∀b o,b≠X.env.locals->b∈X.fs->b∉ch->s.heap.get? b=u_ o->H b=UU->∃sl,h'.get? b=u_ {o with slots:=sl}) (free:∀b o,b∉ch->s.heap.get? b=u_ o->H b=UU->H' b=UU)
  (there:∀b o,b∉ch->s.heap.get? b=u_ o->∃o',h'.get? b=u_ o')
  (tups:∀b xs,H b=u_ (.tup xs)->H' b=u_ (.tup xs)) (frzs:∀b o u,H b=u_ (.frz o u)->H' b=u_ (.frz o u)) (tbls:∀b ps,H b=u_ (.tbl ps)->∃more,H' b=u_ (.tbl (ps++more)))
  (ns:∀m,s.heap.Ns X.env.locals m->h'.Ns X.env.locals m) (hok:HOk X.prog X.w H' h') (hg:Vv g') (ht:0<t':=by ac_rfl):
  Inv X oq σ H' {s with heap:=h',gens:=g',drawn:=d',toks:=t'}:=by
 have ad:∀b o,X.s₀.heap.get? b=u_ o->b≠X.env.locals:=λb o e=>uN (V7 (uD e) I.ok.above);have ac:∀b o,X.s₀.heap.get? b=u_ o->b∉X.ex->b∉ch:=λb o e O hb=>by
  rcases(U b hb).1 with z|z
  ·exact O z
  ·exact absurd (V7 (uD e) z) (vD _)
 have Z:∀x c,X.env.cells.lookup x=u_ c->∀v,s.heap.IsCell c v->h'.IsCell c v:=λx c e v ⟨o,ho,hd⟩=>by
  have aa:c∉ch:=λz=>(U c z).2.2.1 x c e rfl;by_cases hc:c∈X.fs
  ·erw[slot c o (I.cne x c e) hc aa ho (I.freeC x c e),sl,q];exact[_:q:hd]
  ·exact[o:keep c o (I.cne x c e) hc aa ho (I.freeC x c e):hd]
 refine⟨I.ok,I.os,hg,⟨λb o e n hb O=> ?_,λb o e n hb O=> ?_,λb o e n O=> ?_,λb o e O=> ?_,λb xs e=>tups b xs (I.base.tups b xs e),λb o xs e=>frzs b o xs (I.base.frzs b o xs e),λb ps e=> ?_⟩,?_,λx c e=> ?_,?_,λx c e=> ?_,λp hp=> ?_,hok,I.len,ht⟩
 ·exact keep b o (ad b o e) hb (ac b o e O) (I.base.keep b o e n hb O) (I.base.free b o e n O)
 ·erw[I.base.slot b o e n hb O,sl,e1];erw[slot b _ (ad b o e) hb (ac b o e O) e1 (I.base.free b o e n O),ae,e2];exact[ae:e2]
 ·erw[I.base.there b o e O,o',e1];exact free b o' (ac b o e O) e1 (I.base.free b o e n O)
 ·erw[I.base.there b o e O,o',e1];exact there b o' (ac b o e O) e1
 ·erw[I.base.tbls b ps e,m1,e1];erw[tbls b _ e1,m2,e2];exact⟨m1++m2,by rw [e2,HA]⟩
 ·erw[I.loc,m,hn,hl];refine[m:ns m hn:λi x v e1 e2 e3=> ?_];erw[hl i x v e1 e2 e3,u,r,l];exists u,r;rcases l with l|⟨k,c,e,z⟩
  ·exact .inl l
  ·exact .inr ⟨k,c,e,Z x c e _ z⟩
 ·erw[I.cell x c e,v,z];exact[v:Z x c e v z]
 ·erw[I.loc,m,[o,_,_,ho,_],_];exact free _ o (λz=>(U _ z).2.1 rfl) ho I.free
 ·erw[I.cell x c e,v,o,ho,hd];exact free c o (λz=>(U c z).2.2.1 x c e rfl) ho (I.freeC x c e)
 ·erw[I.pin p hp,e,n,ne,nf,d];have aa:p.1∉ch:=λz=>(U p.1 z).2.2.2 p hp rfl;exact⟨keep p.1 p.2 ne nf aa e n,free p.1 p.2 aa e n,ne,nf,d⟩
variable {t':Nat}
theorem Inv.un (I:Inv X oq σ H s)(u:Un X.fs [] H H' s.heap h')(hok:HOk X.prog X.w H' h')(ht:0<t':=by ac_rfl):Inv X oq σ H' {s with heap:=h',toks:=t'}:=by
 erw[id I.loc,m,[o,es,ep,ho,r],_];obtain⟨sl,hL⟩:=u.any ho I.free (by simp)
 exact I.step (g':=s.gens) (d':=s.drawn) (ch:= []) (λ_ z=>nomatch z) (λb o _ U _ e n=>u.keep b o e n U (by simp)) (λb o _ U _ e n=>u.slot b o e n U (by simp)) (λb o _ e n=>u.free b o e n (by simp)) (λb o _ e=>u.there b o e (by simp)) u.tups u.frzs u.tbls (λm' hm=>by
  erw[hm,o',Z,aa,O,r'];rw [ho] at O;cases O;exact⟨_,Z,aa,hL,r'⟩) hok I.bare
theorem Inv.call {g':Array T2}{t':Nat}{d':Drawn}{ch:oj o3}(I:Inv X oq σ H s)(u:Un (frs X.stack) ch H H' s.heap h')(hok:HOk X.prog X.w H' h')(hg:Vv g')
  (U:∀b∈ch,(b∈X.ex∨X.s₀.heap.objs.size<=b)/\b≠X.env.locals/\(∀x c,X.env.cells.lookup x=u_ c->c≠b)/\∀p∈X.pn++oq,p.1≠b) (ht:0<t':=by ac_rfl):
  Inv X oq σ H' {s with heap:=h',gens:=g',drawn:=d',toks:=t'}:=by
 erw[id I.loc,m,[o,es,ep,ho,r],_];obtain⟨sl,hL⟩:=u.any ho I.free λz=>(U _ z).2.1 rfl;exact I.step (ch:=ch) U (λb o hL hb O e n=>u.keep b o e n (λz=>(A5.mp (I.stkSub b z)).elim hL hb) O) (λb o _ _ O e n=>u.any e n O) (λb o O e n=>u.free b o e n O) (λb o O e=>u.there b o e O) u.tups u.frzs u.tbls (λm' hm=>by
  erw[hm,o',aa,ac,Z,r'];rw [ho] at Z;cases Z;exact⟨_,aa,ac,hL,r'⟩) hok hg
theorem Inv.turned {t':Nat}{it:o3}(I:Inv X oq σ H s)(k:∀b o,b≠it->s.heap.get? b=u_ o->h'.get? b=u_ o)(hn:H it=UU)(Z:it≠X.env.locals)
  (h1:it∈X.ex∨X.s₀.heap.objs.size<=it) (h2:∀x c,X.env.cells.lookup x=u_ c->c≠it) (h3:∀p∈X.pn++oq,p.1≠it) (ht:0<t':=by ac_rfl):Inv X oq σ H {s with heap:=h',toks:=t'}:=by
 have U:∀b u,H b=u_ u->b≠it:=λb u e z=>by rw [z,hn] at e;cases e
 refine I.step (g':=s.gens) (d':=s.drawn) (ch:= [it]) (λb hb=> ?_) (λb o _ _ O e _=>k b o (λz=>O (by simp [z])) e) (λb o _ _ O e _=>⟨o.slots,k b o (λz=>O (by simp [z])) e⟩) (λ_ _ _ _ n=>n)
  (λb o O e=>⟨o,k b o (λz=>O (by simp [z])) e⟩) (λ_ _ e=>e) (λ_ _ _ e=>e) (λb ps e=>⟨#[],by rw [e];simp⟩) (λm hm=> ?_) (λb u e=> ?_) I.bare
 ·have e:b=it:=by simpa using hb
  subst e;exact⟨h1,Z,h2,h3⟩
 ·erw[hm,o,es,ep,ho,r];exact⟨o,es,ep,k _ o (Up Z) ho,r⟩
 ·refine(I.hok b u e).stay (λc v O q=>k c v ?_ q) (λ_ q=>q) λ_ _ q=>q;rcases O with z|z
  ·rw [z];exact U b u e
  ·exact U c _ z
theorem Inv.tok (I:Inv X oq σ H s)(t:Nat)(O:0<t:=by ac_rfl):Inv X oq σ H {s with toks:=t}:=I.un (h':=s.heap) (t':=t) Un.refl I.hok
theorem Inv.kept (I:Inv X oq σ H s)(k:∀b u,s.heap.get? b=u_ u->h'.get? b=u_ u)(O:0<t':=by ac_rfl):Inv X oq σ H {s with heap:=h',toks:=t'}:=I.un (Un.kept k) (I.hok.kept k)
theorem Inv.laid {o:HO}(I:Inv X oq σ H s)(k:∀b u,s.heap.get? b=u_ u->h'.get? b=u_ u)(O:s.heap.objs.size<=a)(new:yp X.prog X.w (upd H a o) h' a o)(U:0<t':=by ac_rfl):
  Inv X oq σ (upd H a o) {s with heap:=h',toks:=t'}:=I.un (Un.laid k O (I.hok.fresh O)) (I.hok.laid k O new)
theorem Inv.write {x e:o3}{o:HO}{t':Nat}(I:Inv X oq σ H s)(mu:Mut (H x))(U:e=x∨H e=u_ (.own x))(k:∀b u,b≠e->s.heap.get? b=u_ u->h'.get? b=u_ u)(O:∃u,h'.get? e=u_ u)
  (new:yp X.prog X.w (upd H x o) h' x o) (Z:0<t':=by ac_rfl):Inv X oq σ (upd H x o) {s with heap:=h',toks:=t'}:=I.un (Un.write mu U k O) (I.hok.write mu U k O new)
theorem Inv.pins_of {O:oj (o3×Obj)}(I:Inv X oq σ H s)(h:∀p∈O,s.heap.get? p.1=u_ p.2/\H p.1=UU/\p.1≠X.env.locals/\p.1∉X.fs/\∀v,p.2.data≠ .cell v):Inv X O σ H s:=
 ⟨I.ok,I.os,I.bare,I.base,I.loc,I.cell,I.free,I.freeC,λp U=>(A7.mp U).elim (λz=>I.pin p (vg _ z)) (h p),I.hok,I.len,I.tk⟩
variable {j:Nat}{x:Str}
theorem nodup_ix {N:oj Str}(O:N.Nodup){i:Nat}(a:N[i]? =u_ x)(b:N[j]? =u_ x):i=j:=by
 erw[Aa.mp a,h1,U];erw[Aa.mp b,h2,Z];exact(List.getElem_inj O).mp (U.trans Z.symm)
theorem store_ok2 {M:gQ}{A:oh}{E:o6->o7->Prop}{i:Nat}{x:Str}{v:V}{u:o6}{Q:Unit->o7->Prop}(I:Inv X oq σ H s)(hN:X.N.Nodup)(hi:X.N[i]? =u_ x)(hx:Loc X.env.scope x)(r:RelV v u)
  (h:∀s',Inv X oq (σ.set i (u_ v)) H s'->(∃a,Gr a s.heap s'.heap/\(a=X.env.locals∨X.env.cells.lookup x=u_ a))->Q gV s') (hf:X.fn x=v_∨X.env.scope.names.lookup x=u_ .local:=by first|exact .inl rfl|exact .inr rfl|assumption):UW M A (G_ X.env x u) Q E s:=by
 erw[id I.loc,m,hn,hl];have ad:(X.env.scope.kind== .class||(X.env.scope.kind== .module&&X.env.locals !=X.env.globals))=false:=by rw [I.ok.kind];rfl
 have ae:i<σ.length:=by rw [I.len];exact(Aa.mp hi).1
 have cne:=I.cne;have U:∀{a:o3}{h':o8},(∃o,s.heap.get? a=u_ o/\H a=UU)->Gr a s.heap h'->HOk X.prog X.w H h':=λ{a h'} ha O b ob e=>by
  erw[ha,_,_,aa];refine(I.hok b ob e).stay (λc w' hc q=>(O.2 c ?_).trans q) (λ_ q=>q) λ_ _ q=>q;rintro rfl;rcases hc with rfl|hc
  ·rw [aa] at e;cases e
  ·rw [aa] at hc;cases hc
 rcases hx with hk|hk
 ·refine TK hk hn (λh' al O=> ?_) ad;erw[id hn,oL,_,_,am,_];refine h _ ⟨I.ok,I.os,I.bare,⟨λb o e n hb hx=> ?_,λb o e n hb hx=> ?_,I.base.free,λb o e hx=> ?_,I.base.tups,I.base.frzs,I.base.tbls⟩,[_:al:λj y v' Z e2 e3=> ?_],λy c e=> ?_,I.free,I.freeC,λp hp=> ?_,U [oL:am:I.free] O,by simpa using I.len,by first|exact I.tk|exact tM _⟩ [_:O:.inl rfl]
  ·exact(O.2 b (uN (V7 (uD e) I.ok.above))).trans (I.base.keep b o e n hb hx)
  ·erw[I.base.slot b o e n hb hx,sl,Z];exact[sl:(O.2 b (uN (V7 (uD e) I.ok.above))).trans Z]
  ·erw[I.base.there b o e hx,o',Z];exact[o':(O.2 b (uN (V7 (uD e) I.ok.above))).trans Z]
  ·by_cases hj:j=i
   ·subst hj;rw [hi] at Z;cases Z;rw [TD ae] at e2;cases e2;exact⟨u,r,.inl ⟨hk,by simp⟩⟩
   ·rw [Fc (Up hj)] at e2;erw[hl j y v' Z e2 e3,u',r',q];exists u',r';rcases q with⟨k,e⟩|⟨k,c,e,z⟩
    ·refine .inl [k:?_];have:y≠x:=λe=>hj (nodup_ix hN Z (e▸hi));simp [this,e]
    ·exact .inr ⟨k,c,e,z.sameBut O (cne y c e)⟩
  ·erw[I.cell y c e,w',z];exact[w':z.sameBut O (cne y c e)]
  ·erw[I.pin p hp,e,n,ne,nf,d];exact⟨(O.2 p.1 ne).trans e,n,ne,nf,d⟩
 ·have ac:X.fn x=true:=by
   rcases hf with z|z
   ·exact z
   ·rw [z] at hk;cases hk
  erw[I.ok.has x (.inl hk),c,hc];erw[I.cell x c hc,w',z];refine wpAny_storeName_cell I.ok.kind hk hc z (λh' af O=> ?_);erw[id z,oc,ag,ah];refine h {s with heap:=h'} ⟨I.ok,I.os,I.bare,⟨λb o e n hb hx=> ?_,λb o e n hb hx=> ?_,I.base.free,λb o e hx=> ?_,I.base.tups,I.base.frzs,I.base.tbls⟩,[m:hn.sameBut O (Up (cne x c hc)):λj y v' Z e2 e3=> ?_],λy c' e=> ?_,I.free,I.freeC,λp hp=> ?_,U [oc:ag:I.freeC x c hc] O,by simpa using I.len,by first|exact I.tk|exact tM _⟩ [c:O:.inr hc]
  ·exact(O.2 b (uN (V7 (uD e) (I.ok.cab x c ac hc)))).trans (I.base.keep b o e n hb hx)
  ·erw[I.base.slot b o e n hb hx,sl,Z];exact[sl:(O.2 b (uN (V7 (uD e) (I.ok.cab x c ac hc)))).trans Z]
  ·erw[I.base.there b o e hx,o',Z];exact[o':(O.2 b (uN (V7 (uD e) (I.ok.cab x c ac hc)))).trans Z]
  ·by_cases hj:j=i
   ·subst hj;rw [hi] at Z;cases Z;rw [TD ae] at e2;cases e2;exact[u:r:.inr ⟨.inl hk,c,hc,af⟩]
   ·rw [Fc (Up hj)] at e2;erw[hl j y v' Z e2 e3,u',r',q];exists u',r';rcases q with q|⟨k,c',e,z'⟩
    ·exact .inl q
    ·refine .inr ⟨k,c',e,z'.sameBut O ?_⟩;rintro rfl;exact hj (nodup_ix hN Z (I.ok.inj _ _ _ e hc▸hi))
  ·by_cases ak:c'=c
   ·subst ak;exact[_:af]
   ·erw[I.cell y c' e,w2,z2];exact[w2:z2.sameBut O ak]
  ·erw[I.pin p hp,e,n,ne,nf,d];refine⟨(O.2 p.1 ?_).trans e,n,ne,nf,d⟩;intro q;rw [q,ag] at e;have q':oc=p.2:=uH e;exact d w' (by rwa [<-q'])
theorem kJ {M:gQ}{A:oh}{E:o6->o7->Prop}{i:Nat}{x:Str}{v:V}{u:o6}{Q:Unit->o7->Prop}(I:Inv X oq σ H s)(O:X.N.Nodup)(hi:X.N[i]? =u_ x)(U:Loc X.env.scope x)(r:RelV v u)
  (h:∀s',Inv X oq (σ.set i (u_ v)) H s'->Q gV s') (Z:X.fn x=v_∨X.env.scope.names.lookup x=u_ .local:=by first|exact .inl rfl|exact .inr rfl|assumption):UW M A (G_ X.env x u) Q E s:=
 store_ok2 I O hi U r (λs' I' _=>h s' I') Z
theorem Inv.call' {s':o7}{ch:oj o3}(I:Inv X oq σ H s)(U:s'.os=s.os)(u:Un (frs X.stack) ch H H' s.heap s'.heap)(hok:HOk X.prog X.w H' s'.heap)(Z:Vv s'.gens)
  (O:∀b∈ch,(b∈X.ex∨X.s₀.heap.objs.size<=b)/\b≠X.env.locals/\(∀x c,X.env.cells.lookup x=u_ c->c≠b)/\∀p∈X.pn++oq,p.1≠b) (ht:0<s'.toks:=by ac_rfl):Inv X oq σ H' s':=by
 erw[s',h',g',d',t',o'];have e:o'=s.os:=U;subst e;exact I.call (g':=g') (t':=t') (d':=d') u hok Z O
end
noncomputable abbrev XK:=o6->om o3->Hp->Prop
noncomputable abbrev St:=oj (om V)
noncomputable abbrev VK:=V->Hp->Prop
noncomputable abbrev TE:=St->Hp->VK->Prop
noncomputable abbrev TT:=St->Hp->(Bool->Hp->Prop)->Prop
noncomputable abbrev TA:=St->Hp->(oj V->Hp->Prop)->Prop
structure Ends where
 nx:St->Hp->Prop
 rt:VK
 bk:St->Hp->Prop:=λ_ _=>False
 ct:St->Hp->Prop:=λ_ _=>False
noncomputable abbrev TS:=Ends->St->Hp->Prop
noncomputable def EP (X:Cx)(oq:oj (o3×Obj))(σ:St)(Q:VK)(u:o6)(s':o7):Prop:=∃v H',Inv X oq σ H' s'/\RelV v u/\Q v H'
noncomputable def TP (X:Cx)(oq:oj (o3×Obj))(σ:St)(Q:Bool->Hp->Prop)(b:Bool)(s':o7):Prop:=∃H',Inv X oq σ H' s'/\Q b H'
noncomputable def AP (X:Cx)(oq:oj (o3×Obj))(σ:St)(Q:oj V->Hp->Prop)(us:oj o6)(s':o7):Prop:=∃vs H',Inv X oq σ H' s'/\Vals vs us/\Q vs H'
noncomputable def SP (X:Cx)(oq:oj (o3×Obj))(D:Ends)(f:Flow)(s':o7):Prop:=
 match f with
 | .next=>∃σ' H',Inv X oq σ' H' s'/\D.nx σ' H'
 | .brk=>∃σ' H',Inv X oq σ' H' s'/\D.bk σ' H'
 | .cont=>∃σ' H',Inv X oq σ' H' s'/\D.ct σ' H'
 | .ret u=>∃v σ' H',Inv X oq σ' H' s'/\RelV v u/\D.rt v H'
noncomputable def PE (X:Cx)(e:Expr)(t:TE):Prop:=
 ∀(oq:oj (o3×Obj)) (s:o7) (σ:St) (H:Hp) (Q:VK),Inv X oq σ H s->t σ H Q->UW #[X,X] X.A (eval e X.env) (EP X oq σ Q) X.xe s
noncomputable def PT (X:Cx)(e:Expr)(t:TT):Prop:=
 ∀(oq:oj (o3×Obj)) (s:o7) (σ:St) (H:Hp) (Q:Bool->Hp->Prop),Inv X oq σ H s->t σ H Q->UW #[X,X] X.A (isTrue e X.env (eval e X.env)) (TP X oq σ Q) X.xe s
noncomputable def PW (X:Cx)(e:Expr)(t:TT):Prop:=
 ∀(whole:Sem o6) (oq:oj (o3×Obj)) (s:o7) (σ:St) (H:Hp) (Q:Bool->Hp->Prop),Inv X oq σ H s->t σ H Q->UW #[X,X] X.A (isTrue e X.env whole) (TP X oq σ Q) X.xe s
variable {X:Cx}
theorem PW.pt {e:Expr}{t:TT}(h:PW X e t):PT X e t:=h _
noncomputable def PA (X:Cx)(es:oj Expr)(t:TA):Prop:=
 ∀(pos:Pos) (oq:oj (o3×Obj)) (s:o7) (σ:St) (H:Hp) (Q:oj V->Hp->Prop),Inv X oq σ H s->t σ H Q->UW #[X,X] X.A (spliced (V8 pos (U_ es X.env))) (AP X oq σ Q) X.xe s
noncomputable def PS (X:Cx)(st:Stmt)(t:TS):Prop:=
 ∀(oq:oj (o3×Obj)) (s:o7) (σ:St) (H:Hp) (D:Ends),Inv X oq σ H s->t D σ H->UW #[X,X] X.A (exec st X.env) (SP X oq D) X.xe s
noncomputable def PSs (X:Cx)(st:oj Stmt)(t:TS):Prop:=
 ∀(oq:oj (o3×Obj)) (s:o7) (σ:St) (H:Hp) (D:Ends),Inv X oq σ H s->t D σ H->UW #[X,X] X.A (execs st X.env) (SP X oq D) X.xe s
variable {A:oh}{s:o7}
theorem thn {α:Type}{t:Sem α}{Q O:α->o7->Prop}{M:gQ}{E:o6->o7->Prop}(h:UW M A t Q E s)(U:∀a s,Q a s->O a s):UW M A t O E s:=vG h U λ_ _ x=>x
section
variable {X:Cx}
inductive tVar (i:Nat) (σ:St) (H:Hp) (Q:VK):Prop
 |mk (v:_) (_:σ[i]? =u_ (u_ v)) (_:Q v H)
noncomputable def tC (v:V):TE:=λ_ H Q=>Q v H
variable {x:Str}
theorem pe_var {i:Nat}{pos:Pos}(hN:X.N[i]? =u_ x)(hv:Vis X.env.scope x)(hd:(x==("__debug__":Str))=false:=by decide)(Z:(x==("__classdict__":Str))=false:=by decide):PE X (.Name x pos) (tVar i):=by
 intro oq s σ H Q I h;erw[h,v,e,h];erw[I.loc,m,hn,hl];erw[hl i x v hN e hv,u,r,l];have fin:EP X oq σ Q u s:=⟨v,H,I,r,h⟩;rcases l with⟨U,hm⟩|⟨U,c,hc,O⟩
 ·exact HE (rh I.ok.kind U hn hm fin) hd
 ·rcases U with U|U
  ·exact HE (rW I.ok.kind U hc O fin) hd
  ·exact HE (wpAny_loadName_free I.ok.kind U hc O fin Z) hd
theorem qm {i j pos}:PE X (.Constant (.int i) j pos) (tC (.int i)):=λ_ _ _ H _ I h=>wpAny_Constant_int ⟨.int i,H,I.tok _,⟨0⟩,h⟩
theorem je {b j pos}:PE X (.Constant (.bool b) j pos) (tC (.bl b)):=λ_ _ _ H _ I h=>Constant_bool ⟨.bl b,H,I,1,h⟩
theorem Qb {j pos}:PE X (.Constant .none j pos) (tC .non):=λ_ _ _ H _ I h=>Constant_none ⟨.non,H,I,1,h⟩
theorem qo {x j pos}:PE X (.Constant (.str x) j pos) (tC (.str x)):=λ_ _ _ H _ I h=>Calls.Constant_str ⟨.str x,H,I.tok _,⟨0⟩,h⟩
noncomputable def Gl (X:Cx)(x:Str):Prop:=X.env.kindOf x=u_ .globalImplicit
theorem kl {E:o6->o7->Prop}{oq:oj (o3×Obj)}{s:o7}{σ:St}{H:Hp}{x:Str}{u:o6}{pos:Pos}{Q:o6->o7->Prop}(I:Inv X oq σ H s)(O:Gl X x)(hm:X.mg x=u_ u)(h:Q u s)
  (hd:(x==("__debug__":Str))=false:=by decide):UW #[X,X] X.A (eval (.Name x pos) X.env) Q E s:=
 R1 I.ok.kind O (Calls.loadGlobal_global (by rw [I.ok.glob];exact I.mod.glob.keeps I.bk) hm h) hd
theorem W6 {E:o6->o7->Prop}{oq:oj (o3×Obj)}{s:o7}{σ:St}{H:Hp}{x:Str}{u:o6}{pos:Pos}{Q:o6->o7->Prop}(I:Inv X oq σ H s)(O:Gl X x)(hm:X.mg x=UU)(U:gO x=u_ u)(h:Q u s)
  (hn:x≠"__name__":=by decide) (hd:(x==("__debug__":Str))=false:=by decide):UW #[X,X] X.A (eval (.Name x pos) X.env) Q E s:=by
 erw[I.mod.blt,mb,h1,h2];exact R1 I.ok.kind O (Calls.loadGlobal_builtin (by rw [I.ok.glob];exact I.mod.glob.keeps I.bk) hm (by rw [I.ok.blt];exact h1.keeps I.bk) ((h2 x hn).trans U) h) hd
variable {v:V}{u:o6}
theorem pe_glob {pos:Pos}(O:Gl X x)(hm:X.mg x=u_ u)(r:RelV v u)(hd:(x==("__debug__":Str))=false:=by decide):PE X (.Name x pos) (tC v):=
 λ_ _ _ H _ I h=>kl I O hm ⟨v,H,I,r,h⟩ hd
theorem Q7 {x:Str}{v:V}{u:o6}{pos:Pos}(O:Gl X x)(hm:X.mg x=UU)(U:gO x=u_ u)(r:RelV v u)(hn:x≠"__name__")(hd:(x==("__debug__":Str))=UV):PE X (.Name x pos) (tC v):=
 λ_ _ _ H _ I h=>W6 I O hm U ⟨v,H,I,r,h⟩ hn hd
variable {a b:Expr}{ta tb:TE}{pos:Pos}
noncomputable def PC (X:Cx)(op:Gb)(a b:Expr)(t:TE):Prop:=
 ∀(oq:oj (o3×Obj)) (s:o7) (σ:St) (H:Hp) (Q:VK),Inv X oq σ H s->t σ H Q->
  UW #[X,X] X.A (eval a X.env) (λv s₁=>UW #[X,X] X.A (eval b X.env) (λu s₂=>UW #[X,X] X.A (V6 op v u) (EP X oq σ Q) X.xe s₂) X.xe s₁) X.xe s
inductive ItB (Q:(Bool->Hp->Prop)) (x:V) (H1:Hp):Prop
 |mk (c:_) (_:x= .bl c) (_:Q c H1)
noncomputable def tB (t:TE):TT:=λσ H Q=>t σ H λx H1=>ItB Q x H1
theorem pt_cmp {O:Gb}{t:TE}(h:PC X O a b t)(h1:Gk O b=UV):PT X (.Compare a [O] [b] pos) (tB t):=by
 intro oq s σ H Q I U;refine rB (thn (h oq s σ H _ I U) λv s1 h1=>thn h1 λu s2 h2=>thn h2 λc s3 zq=> ?_) h1;erw[zq,x,H1,Z,r1,q1];erw[q1,d,rfl,q];cases r1;exact vo [H1:Z:q]
theorem Qq {e:Expr}{t:TE}(h:PE X e t)(U:∀O,isTrue e X.env O=(do let v<-O;Gi e.pos;VV [v] (truthy v))):PT X e (tB t):=by
 intro oq s σ H Q I Z;refine TY (thn (h oq s σ H _ I Z) λv s1 zq=> ?_) (U _);erw[zq,x,H1,I1,r1,q1];erw[q1,d,rfl,q];cases r1;exact vo [H1:I1:q]
variable {tA tB':TT}{rest:oj Expr}
noncomputable def tAnd (t u:TT):TT:=λσ H Q=>t σ H λc H1=>if c=v_ then u σ H1 Q else Q UV H1
noncomputable def tOr (t u:TT):TT:=λσ H Q=>t σ H λc H1=>if c=v_ then Q v_ H1 else u σ H1 Q
noncomputable def tNot (t:TT):TT:=λσ H Q=>t σ H λc H1=>Q (!c) H1
theorem Ki (ha:PT X a tA):PW X (.BoolOp .And [a] pos) tA:=by
 intro O oq s σ H Q I h;refine isTrue_and (thn (ha oq s σ H Q I h) λc s1 e=> ?_);cases c with
 |true=>exact isTrue_and_nil e
 |false=>exact e
theorem J6 (ha:PT X a tA):PW X (.BoolOp .Or [a] pos) tA:=by
 intro O oq s σ H Q I h;refine isTrue_or (thn (ha oq s σ H Q I h) λc s1 e=> ?_);cases c with
 |false=>exact isTrue_or_nil e
 |true=>exact e
theorem pw_and (ha:PT X a tA)(U:PW X (.BoolOp .And (b::rest) pos) tB'):PW X (.BoolOp .And (a::b::rest) pos) (tAnd tA tB'):=by
 intro Z oq s σ H Q I h;refine isTrue_and (thn (ha oq s σ H _ I h) λc s1 zq=> ?_);erw[zq,H1,O,q1];cases c with
 |true=>exact U Z oq s1 σ H1 Q O q1
 |false=>exact[H1:O:q1]
theorem Zm (ha:PT X a tA)(U:PW X (.BoolOp .Or (b::rest) pos) tB'):PW X (.BoolOp .Or (a::b::rest) pos) (tOr tA tB'):=by
 intro Z oq s σ H Q I h;refine isTrue_or (thn (ha oq s σ H _ I h) λc s1 zq=> ?_);erw[zq,H1,O,q1];cases c with
 |true=>exact[H1:O:q1]
 |false=>exact U Z oq s1 σ H1 Q O q1
theorem Qz (ha:PT X a tA):PT X (.UnaryOp .Not a pos) (tNot tA):=by
 intro oq s σ H Q I h;exact isTrue_not (ha oq s σ H (λc H1=>Q (!c) H1) I h)
inductive ItAndV (tb:TE) (σ:St) (Q:VK) (x:V) (H1:Hp):Prop
 |mk (c:_) (_:x= .bl c) (_:if c=v_ then tb σ H1 Q else Q (.bl UV) H1)
noncomputable def tAndV (ta tb:TE):TE:=λσ H Q=>ta σ H λx H1=>ItAndV tb σ Q x H1
inductive ItOrV (tb:TE) (σ:St) (Q:VK) (x:V) (H1:Hp):Prop
 |mk (c:_) (_:x= .bl c) (_:if c=v_ then Q (.bl v_) H1 else tb σ H1 Q)
noncomputable def tOrV (ta tb:TE):TE:=λσ H Q=>ta σ H λx H1=>ItOrV tb σ Q x H1
theorem pe_one {op}{t:TE}(h:PE X a t):PE X (.BoolOp op [a] pos) t:=λoq s σ H Q I O=>BoolOp_one (h oq s σ H Q I O)
theorem pe_and (ha:PE X a ta)(U:PE X (.BoolOp .And (b::rest) pos) tb):PE X (.BoolOp .And (a::b::rest) pos) (tAndV ta tb):=by
 intro oq s σ H Q I h;refine BoolOp_and (thn (ha oq s σ H _ I h) λv s1 zq=> ?_);erw[zq,x,H1,O,Z,q1];erw[q1,c,rfl,q1];cases Z;refine vo ?_;cases c with
 |true=>exact U oq s1 σ H1 Q O q1
 |false=>exact⟨.bl UV,H1,O,1,q1⟩
theorem pe_or (ha:PE X a ta)(U:PE X (.BoolOp .Or (b::rest) pos) tb):PE X (.BoolOp .Or (a::b::rest) pos) (tOrV ta tb):=by
 intro oq s σ H Q I h;refine BoolOp_or (thn (ha oq s σ H _ I h) λv s1 zq=> ?_);erw[zq,x,H1,O,Z,q1];erw[q1,c,rfl,q1];cases Z;refine vo ?_;cases c with
 |false=>exact U oq s1 σ H1 Q O q1
 |true=>exact⟨.bl v_,H1,O,1,q1⟩
noncomputable def tIf (t:TT)(ta tb:TE):TE:=λσ H Q=>t σ H λc H1=>if c=v_ then ta σ H1 Q else tb σ H1 Q
theorem yb {c:Expr}(U:PT X c tA)(ha:PE X a ta)(Z:PE X b tb):PE X (.IfExp c a b pos) (tIf tA ta tb):=by
 intro oq s σ H Q I h;refine wpAny_IfExp (thn (U oq s σ H _ I h) λd s1 zq=> ?_);erw[zq,H1,O,q1];cases d with
 |true=>exact ha oq s1 σ H1 Q O q1
 |false=>exact Z oq s1 σ H1 Q O q1
end
noncomputable def SqL (K:o0)(H:Hp)(a:o3)(xs:oj V):Prop:=
 Rd H a (.lst xs)∨
  ∃(o:Obj) (its:Array o6) (n:Nat),K.lookup a=u_ o/\o.cls= .type "list"/\o.dict=UU/\o.data= .seq its n/\its.size<=UY/\Vals xs its.toList
noncomputable def SqT (K:o0)(H:Hp)(a:o3)(xs:oj V):Prop:=
 Rd H a (.tup xs)∨
  ∃(o:Obj) (its:Array o6) (n:Nat),K.lookup a=u_ o/\o.cls= .type "tuple"/\o.data= .seq its n/\its.size<=UY/\Vals xs its.toList
noncomputable def absV:o6->om V
 | .none=>u_ .non
 | .bool b=>u_ (.bl b)
 | .int i _=>u_ (.int i)
 | .str x _=>u_ (.str x)
 | .bytes b _=>u_ (.byt b)
 | .float b _=>u_ (.flt b)
 | .ref a=>u_ (.ref a)
 | .type n=>u_ (.ty n)
 |_=>UU
variable {u:o6}
theorem RelV.abs {x:V}(r:RelV x u):absV u=u_ x:=by
 cases x with
 |non=>cases r;rfl
 |bl _=>cases r;rfl
 |int _=>erw[r,t,rfl];rfl
 |str _=>erw[r,t,rfl];rfl
 |byt _=>erw[r,t,rfl];rfl
 |flt _=>erw[r,t,rfl];rfl
 |ref _=>cases r;rfl
 |ty _=>cases r;rfl
variable {y:V}
theorem RelV.inj {x:V}(r:RelV x u)(q:RelV y u):x=y:=uH (r.abs.symm.trans q.abs)
theorem Vals.inj:∀{xs ys:oj V}{us:oj o6},Vals xs us->Vals ys us->xs=ys
 |_,_,_,.nil,.nil=>rfl
 |_,_,_,.cons r t,.cons r' t'=>by rw [r.inj r',Vals.inj t t']
section
variable {X:Cx}{oq:oj (o3×Obj)}{σ:St}{H:Hp}{s:o7}{a:o3}{xs ys:oj V}
variable {K:o0}
theorem SqL.of (h:H a=u_ (.lst xs)):SqL K H a xs:= .inl (.inl h)
theorem SqT.of (h:H a=u_ (.tup xs)):SqT K H a xs:= .inl (.inl h)
theorem Inv.list (I:Inv X oq σ H s)(h:SqL X.K H a xs):∃its:oj o6,Vals xs its/\PlainL s.heap a its.toArray/\xs.length<=sizeLine:=by
 rcases h with h|⟨o,its,n,O,U,hd,Z,hz,r⟩
 ·erw[h.ok I.hok,z,its,n,r,e];exact⟨its,r,⟨_,n,e,1,1,1⟩,z⟩
 ·exists its.toList,r,⟨o,n,I.kIn a o O,U,hd,by simpa using Z⟩
  have e:=r.length;simp only [vb] at e;omega
theorem Inv.tuple (I:Inv X oq σ H s)(h:SqT X.K H a xs):∃its:oj o6,Vals xs its/\gR s.heap a its.toArray/\xs.length<=sizeLine:=by
 rcases h with h|⟨o,its,n,O,U,Z,hz,r⟩
 ·erw[h.ok I.hok,z,its,r,p];exact⟨its,r,p,z⟩
 ·exists its.toList,r,⟨o,I.kIn a o O,U,n,by simpa using Z⟩
  have e:=r.length;simp only [vb] at e;omega
theorem Inv.list_inj (I:Inv X oq σ H s)(h:SqL X.K H a xs)(h':SqL X.K H a ys):xs=ys:=by
 erw[I.list h,its,r,[o,n,e,_,_,d],_];erw[I.list h',its',U,[o',n',O,_,_,d'],_];rw [e] at O;cases O;rw [d] at d';injection d' with Z _
 have:its=its':=by simpa using congrArg Tq Z
 subst this;exact r.inj U
theorem Inv.tuple_inj (I:Inv X oq σ H s)(h:SqT X.K H a xs)(h':SqT X.K H a ys):xs=ys:=by
 erw[I.tuple h,its,r,[o,e,_,n,d],_];erw[I.tuple h',its',U,[o',O,_,n',d'],_];rw [e] at O;cases O;rw [d] at d';injection d' with Z _
 have:its=its':=by simpa using congrArg Tq Z
 subst this;exact r.inj U
end
noncomputable abbrev Cx.wish (X:Cx)(E:o6->o7->Prop):Cx:={X with xe:=E}
noncomputable abbrev Cx.nox (X:Cx):Cx:=X.wish λ_ _=>False
theorem Cx.Ok.wish (ok:X.Ok)(E:o6->o7->Prop):(X.wish E).Ok:=
 ⟨ok.mod,ok.kind,ok.glob,ok.blt,ok.above,ok.inj,ok.has,ok.cab,ok.hd,ok.frames,ok.stk,ok.exf,ok.bs,ok.bsz,ok.noex,ok.exfs,ok.funs,ok.frf⟩
theorem Cx.Ok.unwish {E:o6->o7->Prop}(ok:(X.wish E).Ok):X.Ok:=
 ⟨ok.mod,ok.kind,ok.glob,ok.blt,ok.above,ok.inj,ok.has,ok.cab,ok.hd,ok.frames,ok.stk,ok.exf,ok.bs,ok.bsz,ok.noex,ok.exfs,ok.funs,ok.frf⟩
section
variable {X:Cx}{oq:oj (o3×Obj)}{σ:St}{H:Hp}{s:o7}{E:o6->o7->Prop}
theorem Inv.wish (I:Inv X oq σ H s)(E:o6->o7->Prop):Inv (X.wish E) oq σ H s:=⟨I.ok.wish E,I.os,I.bare,I.base,I.loc,I.cell,I.free,I.freeC,I.pin,I.hok,I.len,I.tk⟩
theorem Inv.unwish (I:Inv (X.wish E) oq σ H s):Inv X oq σ H s:=⟨I.ok.unwish,I.os,I.bare,I.base,I.loc,I.cell,I.free,I.freeC,I.pin,I.hok,I.len,I.tk⟩
theorem SP.unwish {D:Ends}{f:Flow}{s':o7}(h:SP (X.wish E) oq D f s'):SP X oq D f s':=by
 cases f with
 |next=>erw[h,O,H',I,q];exact⟨O,H',I.unwish,q⟩
 |brk=>erw[h,O,H',I,q];exact⟨O,H',I.unwish,q⟩
 |cont=>erw[h,O,H',I,q];exact⟨O,H',I.unwish,q⟩
 |ret u=>erw[h,v,O,H',I,r,q];exact⟨v,O,H',I.unwish,r,q⟩
theorem PSs.nox {st:oj Stmt}{t:TS}(h:PSs X.nox st t):PSs X st t:=λoq s σ H D I hw=>
 vG (h oq s σ H D (I.wish _) hw) (λ_ _ q=>q.unwish) λ_ _ z=>Vm z
end
section
variable {X:Cx}{st:Stmt}{rest:oj Stmt}{t u:TS}{e:Expr}{te:TE}{pos:Pos}
noncomputable def tNext:TS:=λD σ H=>D.nx σ H
noncomputable def tSeq (t u:TS):TS:=λD σ H=>t {D with nx:=u D} σ H
theorem qy:PSs X [] tNext:=λ_ _ σ H _ I h=>GV ⟨σ,H,I,h⟩
theorem qe (h1:PS X st t)(h2:PSs X rest u):PSs X (st::rest) (tSeq t u):=by
 intro oq s σ H D I h;refine TF (thn (h1 oq s σ H {D with nx:=u D} I h) λf s1 q=> ?_)
 cases f with
 |next=>
  erw[q,O,H',U,q];exact h2 oq s1 O H' D U q
 |ret v=>exact q
 |brk=>exact q
 |cont=>exact q
theorem qg (h1:PS X st t):PSs X [st] t:=by
 intro oq s σ H D I h;refine TF (thn (h1 oq s σ H D I h) λf s1 q=> ?_);cases f with
 |next=>exact GV q
 |ret v=>exact q
 |brk=>exact q
 |cont=>exact q
noncomputable def tBreak:TS:=λD σ H=>D.bk σ H
noncomputable def tCont:TS:=λD σ H=>D.ct σ H
theorem ps_pass:PS X (.Pass pos) tNext:=λ_ _ σ H _ I h=>wpAny_Pass ⟨σ,H,I,h⟩
theorem ps_break:PS X (.Break pos) tBreak:=λ_ _ σ H _ I h=>wpAny_Break ⟨σ,H,I,h⟩
theorem ps_continue:PS X (.Continue pos) tCont:=λ_ _ σ H _ I h=>wpAny_Continue ⟨σ,H,I,h⟩
variable {oq:oj (o3×Obj)}{σ:St}
theorem Inv.quiet (I:Inv X oq σ H s):Tc X.env=false:=by simp [Tc,I.ok.kind]
noncomputable def tDrop (te:TE):TS:=λD σ H=>te σ H λ_ H1=>D.nx σ H1
theorem Qa (O:PE X e te)(U:Gy e UU pos.line X.env=pure UV):PS X (.Expr e pos) (tDrop te):=by
 intro oq s σ H D I h;exact wpAny_Expr_any (thn (O oq s σ H _ I h) λv s1 ⟨x,H1,Z,r1,q1⟩=>⟨σ,H1,Z,q1⟩) I.quiet U
noncomputable def tRet (te:TE):TS:=λD σ H=>te σ H D.rt
theorem qu (O:PE X e te):PS X (.Return (u_ e) pos) (tRet te):=by
 intro oq s σ H D I h;exact wpAny_Return_some (thn (O oq s σ H _ I h) λv s1 ⟨x,H1,U,Z,q1⟩=>⟨x,σ,H1,U,Z,q1⟩)
noncomputable def tRetN:TS:=λD _ H=>D.rt .non H
theorem ps_retN:PS X (.Return UU pos) tRetN:=λ_ _ σ H _ I h=>wpAny_Return_none ⟨.non,σ,H,I,1,h⟩
noncomputable def tIfS (c:TT)(t u:TS):TS:=λD σ H=>c σ H λb H1=>if b=v_ then t D σ H1 else u D σ H1
theorem qI {c:Expr}{a b:oj Stmt}{tc:TT}(U:PT X c tc)(ha:PSs X a t)(Z:PSs X b u):PS X (.If c a b pos) (tIfS tc t u):=by
 intro oq s σ H D I h;refine wpAny_If (thn (U oq s σ H _ I h) λd s1 zq=> ?_);erw[zq,H1,O,q1];cases d with
 |true=>exact ha oq s1 σ H1 D O q1
 |false=>exact Z oq s1 σ H1 D O q1
noncomputable def tNever:TS:=λ_ _ _=>False
theorem Y2:PS X st tNever:=λ_ _ _ _ _ _ h=>h.elim
end
noncomputable abbrev TG:=V->St->Hp->(St->Hp->Prop)->Prop
noncomputable abbrev TGs:=oj V->St->Hp->(St->Hp->Prop)->Prop
noncomputable def PG (X:Cx)(target:Expr)(t:TG):Prop:=
 ∀(oq:oj (o3×Obj)) (s:o7) (σ:St) (H:Hp) (v:V) (u:o6) (Q:St->Hp->Prop),Inv X oq σ H s->RelV v u->t v σ H Q->
  UW #[X,X] X.A (VH target X.env u) (λ_ s'=>∃σ' H',Inv X oq σ' H' s'/\Q σ' H') X.xe s
noncomputable def PGs (X:Cx)(ts:oj Expr)(t:TGs):Prop:=
 ∀(oq:oj (o3×Obj)) (s:o7) (σ:St) (H:Hp) (vs:oj V) (us:oj o6) (Q:St->Hp->Prop),Inv X oq σ H s->Vals vs us->t vs σ H Q->
  UW #[X,X] X.A (assignInOrder ((VA ts X.env).map (·.2)) us) (λ_ s'=>∃σ' H',Inv X oq σ' H' s'/\Q σ' H') X.xe s
noncomputable abbrev TSet:=V->V->V->Hp->(Hp->Prop)->Prop
noncomputable def PSet (X:Cx)(t:TSet):Prop:=
 ∀(oq:oj (o3×Obj)) (s:o7) (σ:St) (H:Hp) (o i v:V) (ov iv u:o6) (Q:Hp->Prop),Inv X oq σ H s->RelV o ov->RelV i iv->RelV v u->t o i v H Q->
  UW #[X,X] X.A (HQ ov iv u) (λ_ s'=>∃H',Inv X oq σ H' s'/\Q H') X.xe s
noncomputable abbrev TIp:=V->V->Hp->VK->Prop
noncomputable def PIp (X:Cx)(op:GC)(t:TIp):Prop:=
 ∀(oq:oj (o3×Obj)) (s:o7) (σ:St) (H:Hp) (x y:V) (v u:o6) (Q:VK),Inv X oq σ H s->RelV x v->RelV y u->t x y H Q->
  UW #[X,X] X.A (tZ op v u) (EP X oq σ Q) X.xe s
section
variable {X:Cx}{pos:Pos}
noncomputable def jt (i:Nat):TG:=λv σ H Q=>Q (σ.set i (u_ v)) H
theorem qV {i:Nat}{x:Str}(O:X.N.Nodup)(hi:X.N[i]? =u_ x)(U:Loc X.env.scope x)(Z:X.fn x=v_∨X.env.scope.names.lookup x=u_ .local):PG X (.Name x pos) (jt i):=by
 intro oq s σ H v u Q I r h;exact Ra (kJ I O hi U r (λs' I'=>⟨_,H,I',h⟩) Z)
noncomputable def gNil:TGs:=λvs σ H Q=>vs= []/\Q σ H
noncomputable def gCons (t:TG)(u:TGs):TGs:=λvs σ H Q=>∃v r,vs=v::r/\t v σ H λσ' H'=>u r σ' H' Q
theorem wk:PGs X [] gNil:=by
 intro oq s σ H vs us Q I r h;erw[h,e,h];subst e;cases r;exact assignInOrder_nil ⟨σ,H,I,h⟩
theorem yu {e:Expr}{es:oj Expr}{t:TG}{u:TGs}(h1:PG X e t)(h2:PGs X es u)
  (O:(VA (e::es) X.env).map (·.2)=VH e X.env::(VA es X.env).map (·.2):=by rfl):PGs X (e::es) (gCons t u):=by
 intro oq s σ H vs us Q I r h;erw[h,v,vr,U,h];subst U;cases r with
 |cons r Z=>
  rw [O];refine assignInOrder_cons (thn (h1 oq s σ H _ _ _ I r h) λ_ s1 zq=> ?_);erw[zq,σ1,H1,I1,q1];exact h2 oq s1 σ1 H1 _ _ Q I1 Z q1
noncomputable def gTup (K:o0)(n:Nat)(t:TGs):TG:=λv σ H Q=>∃a xs,v= .ref a/\SqT K H a xs/\xs.length=n/\t xs σ H Q
theorem pg_tup {es:oj Expr}{k:Nat}{t:TGs}{n:Nat}(Z:X.calm=v_)(h:PGs X es t)
  (hn:(VA es X.env).length=n:=by rfl) (O:(VA es X.env).findIdx? (·.1)=none:=by rfl):PG X (.Tuple es k pos) (gTup X.K n t):=by
 intro oq s σ H v u Q I r U;erw[U,a,xs,e1,hq,hl,U];subst e1;cases r;erw[I.tuple hq,its,rv,ht,hz];refine assign_Tuple_tuple (I.ok.hd Z) ht (by simp [hn,<-hl,rv.length]) O λh' hx=> ?_
 have I1:Inv X oq σ H {s with heap:=h'}:=I.kept (t':=s.toks) λb o e=>hx b o (uN (uD e)) e
 exact h oq _ σ H xs _ Q I1 (by simpa using rv) U
noncomputable def gSub (to ti:TE)(t:TSet):TG:=λv σ H Q=>to σ H λo H1=>ti σ H1 λi H2=>t o i v H2 λH3=>Q σ H3
theorem pg_sub {o i:Expr}{to ti:TE}{t:TSet}(U:PE X o to)(hi:PE X i ti)(Z:PSet X t)
  (ha:∀v,VH (.Subscript o i pos) X.env v=(do
   let ov<-VV [v] (eval o X.env)
   let O<-VV [v,ov] (eval i X.env)
   Gi pos
   VV [v,ov,O] (HQ ov O v)
   release [v,ov,O] [])):PG X (.Subscript o i pos) (gSub to ti t):=by
 intro oq s σ H v u Q I r h;rw [ha];refine A4 (Vr (thn (U oq s σ H _ I h) λov s1 zq=> ?_));erw[zq,x,H1,I1,r1,q1];refine A4 (Vr (thn (hi oq s1 σ H1 _ I1 q1) λO s2 zq=> ?_));erw[zq,y,H2,I2,r2,q2];refine A4 (GD (A4 (Vr (thn (Z oq s2 σ H2 x y v ov O u _ I2 r1 r2 r q2) λ_ s3 zq=> ?_))));erw[zq,H3,I3,q3];exact wpAny_release ⟨σ,H3,I3,q3⟩
noncomputable def tAsg (te:TE)(g:TG):TS:=λD σ H=>te σ H λx H1=>g x σ H1 D.nx
theorem ps_asg {tg e:Expr}{te:TE}{g:TG}(O:PE X e te)(U:PG X tg g)(Z:swapsWithSole [tg] e pos.line X.env=pure UV)(hw:swappedStores [tg] e X.env=pure UU)
  (h1:(VA [tg] X.env).map (·.2)= [VH tg X.env]):PS X (.Assign [tg] e pos) (tAsg te g):=by
 intro oq s σ H D I h;refine wpAny_Assign_stores (thn (O oq s σ H _ I h) λv s1 zq=> ?_) Z hw;erw[zq,x,H1,I1,r1,q1];rw [h1];exact thn (U oq s1 σ H1 x v _ I1 r1 q1) λ_ s2 q=>q
theorem qE {i:Nat}{x:Str}{e:Expr}{te:TE}{pos':Pos}(O:X.N.Nodup)(hi:X.N[i]? =u_ x)(U:Loc X.env.scope x)(Z:PE X e te)(hs:Gy e (u_ (.Name x pos')) pos.line X.env=pure UV)(hf:X.fn x=v_∨X.env.scope.names.lookup x=u_ .local):
  PS X (.Assign [.Name x pos'] e pos) (tAsg te (jt i)):=by
 intro oq s σ H D I h;refine wpAny_Assign_Name (thn (Z oq s σ H _ I h) λv s1 zq=> ?_) hs;erw[zq,y,H1,I1,r1,q1];exact kJ I1 O hi U r1 (λs2 I2=>⟨_,H1,I2,q1⟩) hf
inductive tAug (i:Nat) (te:TE) (ti:TIp) (D:Ends) (σ:St) (H:Hp):Prop
 |mk (x:_) (_:σ[i]? =u_ (u_ x)) (_:te σ H λy H1=>ti x y H1 λz H2=>D.nx (σ.set i (u_ z)) H2)
theorem ps_aug {i:Nat}{x:Str}{e:Expr}{te:TE}{Z:GC}{ti:TIp}{pos':Pos}(hN:X.N.Nodup)(hi:X.N[i]? =u_ x)(hx:Loc X.env.scope x)(he:PE X e te)(ho:PIp X Z ti)(hf:X.fn x=v_∨X.env.scope.names.lookup x=u_ .local):
  PS X (.AugAssign (.Name x pos') Z e pos) (tAug i te ti):=by
 intro oq s σ H D I h;erw[h,v,e1,h];erw[I.loc,m,hn,hl];have aa:Vis X.env.scope x:=by rcases hx with k|k;exact .inl k;exact .inr (.inl k)
 erw[hl i x v hi e1 aa,u,r,l];refine wpAny_AugAssign_Name ?_;have go:UW #[X,X] X.A (eval e X.env) (λw s₂=>UW #[X,X] X.A (tZ Z u w) (λr s₃=>UW #[X,X] X.A (G_ X.env x r) (λ_=>SP X oq D .next) X.xe s₃) X.xe s₂) X.xe s:=by
  refine thn (he oq s σ H _ I h) λw s1 zq=> ?_;erw[zq,y,H1,I1,r1,q1];refine thn (ho oq s1 σ H1 v y u w _ I1 r r1 q1) λz s2 zq=> ?_;erw[zq,zv,H2,I2,r2,q2];exact kJ I2 hN hi hx r2 (λs3 I3=>⟨_,H2,I3,q2⟩) hf
 rcases l with⟨O,hm⟩|⟨O,c,hc,U⟩
 ·exact rh I.ok.kind O hn hm go
 ·rcases O with O|O
  ·exact rW I.ok.kind O hc U go
  ·rcases hx with k|k
   ·have:X.env.scope.names.lookup x=u_ .free:=O;rw [k] at this;cases this
   ·have:X.env.scope.names.lookup x=u_ .free:=O;rw [k] at this;cases this
noncomputable def ipI (f:Int->Int->Int):TIp:=λx y H Q=>∃i j,x= .int i/\y= .int j/\Q (.int (f i j)) H
theorem ip_add:PIp X .Add (ipI λi j=>i+j):=by
 intro oq s σ H x y v u Q I O U h;erw[h,i,j,Z,e2,q];subst Z;subst e2;erw[O,t,rfl];erw[U,t',rfl];exact iadd_int ⟨.int _,H,I.tok _,⟨0⟩,q⟩
noncomputable def tWhile (c:TT)(tb:TS):TS:=λD σ H=>∃W:Nat->St->Hp->Prop,(∃m,W m σ H)/\∀m σ H,W m σ H->
 c σ H λb H1=>if b=v_ then∃N:St->Hp->Prop,(∀σ' H',N σ' H'->∃m',m'<m/\W m' σ' H')/\tb {D with nx:=N,ct:=N,bk:=D.nx} σ H1 else D.nx σ H1
theorem Xm {c:Expr}{O:oj Stmt}{tc:TT}{tb:TS}(hp:PassesOwn #[X,X] X.A X.env X.xe)(hc:PT X c tc)(hb:PSs X O tb):PS X (.While c O [] pos) (tWhile tc tb):=by
 intro oq s σ H D I h;erw[h,W,[m0,w0],U];refine wpAny_While (codeAny_whileLoop (λn s'=>∃σ' H',Inv X oq σ' H' s'/\W n σ' H') ?_ m0 ⟨σ,H,I,w0⟩);rintro n s1 ⟨σ1,H1,I1,w1⟩;refine vY hp (thn (hc oq s1 σ1 H1 _ I1 (U n σ1 H1 w1)) λb s2 zq=> ?_);erw[zq,H2,I2,q2];cases b with
 |true=>
  erw[q2,N,hN,q2];rw [A3 rfl];refine vY hp (thn (hb oq s2 σ1 H2 _ I2 q2) λf s3 q3=> ?_);cases f with
  |next=>
   erw[q3,Z,H3,I3,n3];erw[hN Z H3 n3,m',hm,w3];exact⟨m',hm,Z,H3,I3,w3⟩
  |cont=>
   erw[q3,Z,H3,I3,n3];erw[hN Z H3 n3,m',hm,w3];exact⟨m',hm,Z,H3,I3,w3⟩
  |brk=>exact q3
  |ret v=>exact q3
 |false=>
  rw [A2 u9];exact GV ⟨σ1,H2,I2,q2⟩
end
structure It where
 go:Nat->Hp->Prop
 yld:Nat->Hp->V->Hp->Prop
 stop:Nat->Hp->Prop
noncomputable def FpOk (X:Cx)(oq:oj (o3×Obj))(H:Hp)(b:o3):Prop:=
 H b=UU/\b≠X.env.locals/\b∉X.fs/\(b∈X.ex∨X.s₀.heap.objs.size<=b)/\(∀x c,X.env.cells.lookup x=u_ c->c≠b)/\∀p∈X.pn++oq,p.1≠b
variable {oq:oj (o3×Obj)}{σ:St}{H':Hp}
theorem Inv.fpOk (I:Inv X oq σ H s)(O:s.heap.objs.size<=b)(hn:H' b=UU):FpOk X oq H' b:=by
 refine⟨hn,Uh (V7 I.lt O),I.nofs O,.inr (uO I.sz O),λx c e z=> ?_,λp U z=> ?_⟩
 ·erw[I.cell x c e,v,q];exact absurd (V7 q.lt (by rwa [z])) (vD _)
 ·exact absurd (V7 (uD (I.pin p U).1) (by rwa [z])) (vD _)
structure Turn (P:o9)(w:og)(K:o0)(tg:Expr)(J:It)(fp:oj o3)(it:o3)(tn:Nat->o8->Prop):Prop where
 mem:it∈fp
 obj:∀i h,tn i h->∀b∈fp,∃o,h.get? b=u_ o/\∀v,o.data≠ .cell v
 keep:∀i h h',tn i h->(∀b∈fp,∀o,h.get? b=u_ o->h'.get? b=u_ o)->tn i h'
 item:∀(X:Cx),X.prog=P->X.w=w->X.K=K->X.calm=v_->∀(i:Nat) (oq:oj (o3×Obj)) (s:o7) (σ:St) (H:Hp) (E:o6->o7->Prop),Inv X oq σ H s->(∀b∈fp,FpOk X oq H b)->tn i s.heap->J.go i H->
  UW (Va P w) X.A (VJ (.ref it)) (λr s1=>∃u,r=u_ u/\
   UW (Va P w) X.A (GF tg (.ref it) u) (λ_ s2=>∃x H',Inv X oq σ H' s2/\RelV x u/\J.yld i H x H'/\tn (i+1) s2.heap/\∀b∈fp,H' b=UU) E s1) E s
 done:∀(X:Cx),X.prog=P->X.w=w->X.K=K->X.calm=v_->∀(i:Nat) (oq:oj (o3×Obj)) (s:o7) (σ:St) (H:Hp) (E:o6->o7->Prop),Inv X oq σ H s->(∀b∈fp,FpOk X oq H b)->tn i s.heap->J.stop i H->
  UW (Va P w) X.A (VJ (.ref it)) (λr s1=>r=UU/\Inv X oq σ H s1) E s
 self:∀(A:oh) (i:Nat) (s:o7) (Q:o6->o7->Prop) (E:o6->o7->Prop),tn i s.heap->Q (.ref it) s->UW (Va P w) A (GP (.ref it)) Q E s
noncomputable abbrev TI:=St->Hp->(It->Hp->Prop)->Prop
noncomputable def PIE (X:Cx)(oq:oj (o3×Obj))(σ:St)(tg:Expr)(R:It->Hp->Prop)(itv:o6)(s2:o7):Prop:=
 ∃(it:o3) (fp:oj o3) (tn:Nat->o8->Prop) (J:It) (H':Hp),itv= .ref it/\Inv X oq σ H' s2/\Turn X.prog X.w X.K tg J fp it tn/\tn 0 s2.heap/\(∀b∈fp,FpOk X oq H' b)/\R J H'
noncomputable def PI (X:Cx)(tg iter:Expr)(wi:TI):Prop:=
 ∀(oq:oj (o3×Obj)) (s:o7) (σ:St) (H:Hp) (R:It->Hp->Prop),Inv X oq σ H s->wi σ H R->
  UW #[X,X] X.A (eval iter X.env) (λv s1=>UW #[X,X] X.A (GP v) (PIE X oq σ tg R) X.xe s1) X.xe s
theorem go_of {M:gQ}{A:oh}{E:o6->o7->Prop}{s:o7}{tg:Expr}{it:o3}{u:o6}{o:Obj}{n:String}{vs:Array o6}{Q:Unit->o7->Prop}(U:s.heap.get? it=u_ o)(Z:o.cls= .type n)(hd:o.data= .fields vs)
  (hn: ["enumerate","zip","dict_itemiterator","dict_reverseitemiterator","odict_iterator","itertools.zip_longest","itertools.pairwise"].contains n=UV) (O:Q gV s):UW M A (GF tg (.ref it) u) Q E s:=by
 unfold GF;cases tg<;>first
  |exact uz O
  |(cases u<;>first
    |exact uz O
    |(refine A4 (hZ U ?_)
      rw [Z,hd];show UW M A (if(["enumerate","zip","dict_itemiterator","dict_reverseitemiterator","odict_iterator","itertools.zip_longest","itertools.pairwise"].contains n&&vs[0]? ==u_ (VI _))=v_ then _ else _) Q E s
      rw [A2 (by intro h;rw [hn,Ft] at h;cases h)]
      exact uz O))
noncomputable def Itl (K:o0)(a:o3):It:=
 ⟨λi H=>∃xs x,SqL K H a xs/\xs[i]? =u_ x,λi H x H'=>H'=H/\∀xs,SqL K H a xs->xs[i]? =u_ x,λi H=>∃xs,SqL K H a xs/\xs.length<=i⟩
noncomputable def Itt (K:o0)(a:o3):It:=
 ⟨λi H=>∃xs x,SqT K H a xs/\xs[i]? =u_ x,λi H x H'=>H'=H/\∀xs,SqT K H a xs->xs[i]? =u_ x,λi H=>∃xs,SqT K H a xs/\xs.length<=i⟩
noncomputable def Itr (lo:Int)(n:Nat):It:=[λi _=>i<n:λi H x H'=>H'=H/\x= .int (lo+i):λi _=>n<=i]
variable {K:o0}{tg:Expr}
theorem turn_list {P:o9}(a it:o3):Turn P w K tg (Itl K a) [it] it (λi h=>h.IsListIter it a i) where
 mem:=by simp
 obj:=λi h st b O=>by
  have e:b=it:=by simpa using O
  subst e;erw[st,o,e,c,d];exact⟨o,e,λv z=>by rw [d] at z;cases z⟩
 keep:=λi h h' st k=>st.at λo e=>k it (by simp) o e
 item:=by
  intro X hP hw hK hc i oq s σ H E I Z st hg;subst hP hw hK;erw[hg,xs,x,hq,hx];erw[I.list hq,its,rv,p,hz];erw[rv.get hx,u,hu,ru];obtain⟨f0,f1,f2,f3,f4,f5⟩:=Z it (by simp)
  refine Fs st p.isList (x:=u) (by simpa using hu) λh' U sb=> ?_
  have I1:Inv X oq σ H {s with heap:=h'}:=I.turned (t':=s.toks) (λb o O e=>(sb.2 b O).trans e) f0 f1 f3 f4 f5
  erw[id U,o,e,c,d];exact⟨u,1,go_of (s:={s with heap:=h'}) e c d () ⟨x,H,I1,ru,⟨1,λys hy=>by rwa [I.list_inj hy hq]⟩,U,λb O=>(Z b O).1⟩⟩
 done:=by
  intro X hP hw hK hc i oq s σ H E I Z st hg;subst hP hw hK;erw[hg,xs,hq,hx];erw[I.list hq,its,rv,p,hz];obtain⟨f0,f1,f2,f3,f4,f5⟩:=Z it (by simp)
  have hl:=rv.length;exact rQ (I.ok.hd hc) st p.isList (by simp;omega) λh' eb=>[1:I.turned (t':=s.toks) (λb o O e=>eb b o O e) f0 f1 f3 f4 f5]
 self:=λ_ _ _ _ _ st h=>wpAny_pyIter_listiter st h
theorem Ws {P:o9}(a it:o3):Turn P w K tg (Itt K a) [it] it (λi h=>h.IsTupleIter it a i) where
 mem:=by simp
 obj:=λi h st b O=>by
  have e:b=it:=by simpa using O
  subst e;erw[st,o,e,c,d];exact⟨o,e,λv z=>by rw [d] at z;cases z⟩
 keep:=λi h h' st k=>st.at λo e=>k it (by simp) o e
 item:=by
  intro X hP hw hK hc i oq s σ H E I Z st hg;subst hP hw hK;erw[hg,xs,x,hq,hx];erw[I.tuple hq,its,rv,p,hz];erw[rv.get hx,u,hu,ru];obtain⟨f0,f1,f2,f3,f4,f5⟩:=Z it (by simp)
  refine wpAny_pyNext_tuple_item st (show s.heap.IsTuple a its.toArray from p) (x:=u) (by simpa using hu) λh' U sb=> ?_
  have I1:Inv X oq σ H {s with heap:=h'}:=I.turned (t':=s.toks) (λb o O e=>(sb.2 b O).trans e) f0 f1 f3 f4 f5
  erw[id U,o,e,c,d];exact⟨u,1,go_of (s:={s with heap:=h'}) e c d () ⟨x,H,I1,ru,⟨1,λys hy=>by rwa [I.tuple_inj hy hq]⟩,U,λb O=>(Z b O).1⟩⟩
 done:=by
  intro X hP hw hK hc i oq s σ H E I Z st hg;subst hP hw hK;erw[hg,xs,hq,hx];erw[I.tuple hq,its,rv,p,hz];obtain⟨f0,f1,f2,f3,f4,f5⟩:=Z it (by simp)
  have hl:=rv.length;exact wpAny_pyNext_tuple_end (I.ok.hd hc) st (show s.heap.IsTuple a its.toArray from p) (by simp;omega) λh' eb=>[1:I.turned (t':=s.toks) (λb o O e=>eb b o O e) f0 f1 f3 f4 f5]
 self:=λ_ _ _ _ _ st h=>wpAny_pyIter_tupleiter st h
theorem turn_range {P:o9}(it:o3)(lo:Int)(n:Nat):Turn P w K tg (Itr lo n) [it] it (λi h=>Fb h it (lo+(i:Nat)*1) ((n:Int)-(i:Nat)) 1) where
 mem:=by simp
 obj:=λi h st b O=>by
  have e:b=it:=by simpa using O
  subst e;exact⟨_,st,λv z=>by
   have z':Data.fields _=Data.cell v:=z;cases z'⟩
 keep:=λi h h' st k=>k it (by simp) _ st
 item:=by
  intro X hP hw hK hc i oq s σ H E I Z st hg;subst hP hw hK;obtain⟨f0,f1,f2,f3,f4,f5⟩:=Z it (by simp)
  have W:=Walks.range (prog:=X.prog) (w:=X.w) (I.ok.hd hc) it lo 1 n;refine uX (n:=1) I.tk (W.item i s _ _ hg st λv h' tk hv U kk=> ?_);intro htk;erw[hv,t,rfl];have I1:Inv X oq σ H {s with heap:=h',toks:=tk}:=I.turned (λb o O e=>kk b o (by simpa using O) e) f0 f1 f3 f4 f5
  refine[0:go_of (s:={s with heap:=h',toks:=tk}) (n:="range_iterator") U rfl rfl () ⟨.int (lo+i),H,I1,[t:?_],[1:1],U,λb O=>(Z b O).1⟩]
  rw [Int.mul_one]
 done:=by
  intro X hP hw hK hc i oq s σ H E I Z st hg;subst hP hw hK;obtain⟨f0,f1,f2,f3,f4,f5⟩:=Z it (by simp)
  exact wpAny_pyNext_range_end (I.ok.hd hc) st (by have:n<=i:=hg;omega) λh' eb=>[1:I.turned (t':=s.toks) (λb o O e=>eb b o O e) f0 f1 f3 f4 f5]
 self:=λ_ _ _ _ _ st h=>wpAny_pyIter_rangeiter st h
section
variable {X:Cx}{tg:Expr}
inductive IiList (K:PySem.W.Frag) (R:(It->Hp->Prop)) (x:V) (H1:Hp):Prop
 |mk (a:_) (_:x= .ref a) (_:(∃xs,SqL K H1 a xs)) (_:R (Itl K a) H1)
noncomputable def iList (K:o0)(tl:TE):TI:=λσ H R=>tl σ H λx H1=>IiList K R x H1
inductive IiTup (K:PySem.W.Frag) (R:(It->Hp->Prop)) (x:V) (H1:Hp):Prop
 |mk (a:_) (_:x= .ref a) (_:(∃xs,SqT K H1 a xs)) (_:R (Itt K a) H1)
noncomputable def iTup (K:o0)(tl:TE):TI:=λσ H R=>tl σ H λx H1=>IiTup K R x H1
theorem KA {l:Expr}{tl:TE}(U:PE X l tl):PI X tg l (iList X.K tl):=by
 intro oq s σ H R I h;refine thn (U oq s σ H _ I h) λv s1 zq=> ?_;erw[zq,x,H1,O,Z,q1];erw[q1,a,e,[xs,hq],q];subst e;cases Z;erw[O.list hq,its,rv,p,hz];refine UJ p.isList ?_;refine⟨s1.heap.objs.size,[s1.heap.objs.size],_,_,H1,1,O.kept (t':=s1.toks) λb o e=>ue _ e,turn_list a _,⟨_,uE _ rfl,1,1⟩,λb hb=> ?_,q⟩;have e:b=s1.heap.objs.size:=by simpa using hb
 subst e;exact O.fpOk (uh _) (O.hok.fresh (uh _))
theorem WR {l:Expr}{tl:TE}(U:PE X l tl):PI X tg l (iTup X.K tl):=by
 intro oq s σ H R I h;refine thn (U oq s σ H _ I h) λv s1 zq=> ?_;erw[zq,x,H1,O,Z,q1];erw[q1,a,e,[xs,hq],q];subst e;cases Z;erw[O.tuple hq,its,rv,p,hz];refine tY (show s1.heap.IsTuple a its.toArray from p) ?_
 refine⟨s1.heap.objs.size,[s1.heap.objs.size],_,_,H1,1,O.kept (t':=s1.toks) λb o e=>ue _ e,Ws a _,⟨_,uE _ rfl,1,1⟩,λb hb=> ?_,q⟩;have e:b=s1.heap.objs.size:=by simpa using hb
 subst e;exact O.fpOk (uh _) (O.hok.fresh (uh _))
theorem range_it {oq:oj (o3×Obj)}{σ:St}{H:Hp}{s:o7}{R:It->Hp->Prop}{E:o6->o7->Prop}{lo hi:Int}{t u v:Tok}{tk:Nat}(I:Inv X oq σ H s)(h1: -(2^62)<=lo)(h2:lo<2^62)(h3: -(2^62)<=hi)(h4:hi<2^62)
  (q:R (Itr lo (hi-lo).toNat) H) (htk:0<tk:=by ac_rfl):UW #[X,X] X.A (GP (.ref s.heap.objs.size)) (PIE X oq σ tg R) E {s with heap:=s.heap.push {cls:= .type "range",data:= .fields #[.int lo t,.int hi u,.int 1 v]},toks:=tk}:=by
 refine wpAny_pyIter_range (IsRange.new ..) (small_one h1 h2 h3 h4) ?_;have O:Inv X oq σ H {s with heap:=s.heap.push {cls:= .type "range",data:= .fields #[.int lo t,.int hi u,.int 1 v]},toks:=tk}:=I.kept λb o e=>ue _ e
 refine⟨(s.heap.push {cls:= .type "range",data:= .fields #[.int lo t,.int hi u,.int 1 v]}).objs.size,[(s.heap.push {cls:= .type "range",data:= .fields #[.int lo t,.int hi u,.int 1 v]}).objs.size],_,_,H,1,
  O.kept (t':=tk) λb o e=>ue _ e,turn_range _ lo (hi-lo).toNat,?_,λb U=> ?_,q⟩
 ·have Z:lo+((0:Nat):Int)*1=lo:=by simp
  have e2:(((hi-lo).toNat:Nat):Int)-((0:Nat):Int)=Ry lo hi 1:=by rw [rangeSize_one];split<;>omega
  show Fb _ _ (lo+((0:Nat):Int)*1) ((((hi-lo).toNat:Nat):Int)-((0:Nat):Int)) 1;rw [Z,e2];exact uE _ rfl
 ·have e:b=(s.heap.push {cls:= .type "range",data:= .fields #[.int lo t,.int hi u,.int 1 v]}).objs.size:=by simpa using U
  subst e;exact O.fpOk (uh _) (O.hok.fresh (uh _))
inductive IiRng1 (R:(It->Hp->Prop)) (vs:List V) (H1:Hp):Prop
 |mk (j:Int) (_:vs= [.int j]) (_: -(2^62)<=j) (_:j<2^62) (_:R (Itr 0 j.toNat) H1)
noncomputable def iRng1 (ta:TA):TI:=λσ H R=>ta σ H λvs H1=>IiRng1 R vs H1
inductive IiRng2 (R:(It->Hp->Prop)) (vs:List V) (H1:Hp):Prop
 |mk (i j:Int) (_:vs= [.int i,.int j]) (_:(-(2^62)<=i/\i<2^62/\ -(2^62)<=j/\j<2^62)) (_:R (Itr i (j-i).toNat) H1)
noncomputable def iRng2 (ta:TA):TI:=λσ H R=>ta σ H λvs H1=>IiRng2 R vs H1
theorem YA {a:Expr}{ta:TA}{p pos:Pos}(O:Gl X "range")(hm:X.mg "range"=UU)(ha:PA X [a] ta)(U:U_ [a] X.env= [(UV,eval a X.env)]):PI X tg (.Call (.Name "range" p) [a] [] pos) (iRng1 ta):=by
 intro oq s σ H R I h;refine Call_ (W6 I O hm boot_range (vN (thn (ha pos oq s σ H _ I h) λus s1 zq=> ?_) U rfl));erw[zq,vs,H1,Z,r1,q1];erw[q1,j,e,q1,q2,q];subst e;cases r1 with
 |cons r rr=>
  cases rr;erw[r,t,rfl];exact call_range_1 (range_it Z () () q1 q2 (by simpa using q))
theorem pi_range2 {a b:Expr}{ta:TA}{p pos:Pos}(Z:Gl X "range")(hm:X.mg "range"=UU)(ha:PA X [a,b] ta)(hs:U_ [a,b] X.env= [(UV,eval a X.env),(UV,eval b X.env)])(O:U_ [b] X.env= [(UV,eval b X.env)]):
  PI X tg (.Call (.Name "range" p) [a,b] [] pos) (iRng2 ta):=by
 intro oq s σ H R I h;refine Call_ (W6 I Z hm boot_range (vN (thn (ha pos oq s σ H _ I h) λus s1 zq=> ?_) (by rw [hs,O]) (by rw [O];rfl)));erw[zq,vs,H1,I1,r1,q1]
 erw[q1,i,j,e,[q1,q2,q3,q4],q];subst e;cases r1 with
 |cons r U=>
  cases U with
  |cons r' U=>
   cases U;erw[r,t,rfl];erw[r',t',rfl];exact call_range_2 (range_it I1 q1 q2 q3 q4 q)
noncomputable def tFor (wi:TI)(g:TG)(tb:TS):TS:=λD σ H=>wi σ H λJ H1=>∃W:Nat->Nat->St->Hp->Prop,(∃m,W 0 m σ H1)/\∀i m σ H,W i m σ H->
 (J.stop i H/\D.nx σ H)∨(J.go i H/\∃N:St->Hp->Prop,(∀σ' H',N σ' H'->∃m',m'<m/\W (i+1) m' σ' H')/\∀x H',J.yld i H x H'->g x σ H' λσ2 H2=>tb {D with nx:=N,ct:=N,bk:=D.nx} σ2 H2)
noncomputable def pinsAt (fp:oj o3)(h:o8):oj (o3×Obj):=fp.filterMap λb=>(h.get? b).map λo=>(b,o)
variable {fp:oj o3}
theorem JT (O:b∈fp)(e:h.get? b=u_ o):(b,o)∈pinsAt fp h:=List.mem_filterMap.mpr ⟨b,O,by rw [e];rfl⟩
theorem of_pinsAt {p:o3×Obj}(O:p∈pinsAt fp h):p.1∈fp/\h.get? p.1=u_ p.2:=by
 erw[List.mem_filterMap.mp O,b,U,e];cases q:h.get? b with
 |none=>rw [q] at e;cases e
 |some o=>
  rw [q] at e;have Z:(b,o)=p:=uH e;subst Z;exact[U:q]
theorem Inv.pinned (I:Inv X oq σ H s)(Z:∀b∈fp,FpOk X oq H b)(ho:∀b∈fp,∃o,s.heap.get? b=u_ o/\∀v,o.data≠ .cell v):Inv X (oq++pinsAt fp s.heap) σ H s:=
 I.pins_of λp hp=>(A7.mp hp).elim (λz=>I.pin p (uI _ z)) λz=>by
  erw[of_pinsAt z,O,e];erw[Z p.1 O,f0,f1,f2,_];erw[ho p.1 O,o,U,d];rw [e] at U;cases U;exact⟨e,f0,f1,f2,d⟩
theorem Inv.unpinned {pl:oj (o3×Obj)}(I:Inv X (oq++pl) σ H s):Inv X oq σ H s:=I.pins_of λp O=>I.pin p (uI _ (vg _ O))
theorem jV {O:Expr}{ac:oj Stmt}{wi:TI}{g:TG}{tb:TS}{pos:Pos}(hp:PassesOwn #[X,X] X.A X.env X.xe)(hc:X.calm=v_)(hi:PI X tg O wi)(hg:PG X tg g)(U:PSs X ac tb)
  (hs:∀x,HS O X.env x=pure x):PS X (.For tg O ac [] pos) (tFor wi g tb):=by
 intro oq s σ H D I h;refine wpAny_For (thn (hi oq s σ H _ I h) λv s1 h1=>thn h1 λam s2 h2=> ?_) hs;erw[h2,it,fp,tn,J,H2,e,I2,T,ah,f2,W,[m0,w0],ae];subst e;have Z:∀{H':Hp},(∀b∈fp,H' b=UU)->∀b∈fp,FpOk X oq H' b:=λhn b U=>[hn b U:(f2 b U).2];refine codeAny_forLoop_any (λn s'=>∃i σ' H',Inv X oq σ' H' s'/\tn i s'.heap/\(∀b∈fp,H' b=UU)/\W i n σ' H') ?_ m0 ⟨(0),σ,H2,I2,ah,λb U=>(f2 b U).1,w0⟩;rintro n s3 ⟨i,σ3,H3,I3,af,ag,w3⟩;rcases ae i n σ3 H3 w3 with⟨stop,qn⟩|⟨go,N,hN,step⟩
 ·refine vY hp (thn (T.done X rfl rfl rfl hc i oq s3 σ3 H3 X.xe I3 (Z ag) af stop) λr s4 zq=> ?_);erw[zq,hr,I4];subst hr;exact GV ⟨σ3,H3,I4,qn⟩
 ·refine vY hp (thn (T.item X rfl rfl rfl hc i oq s3 σ3 H3 X.xe I3 (Z ag) af go) λr s4 zq=> ?_);erw[zq,u,hr,h4];subst hr;refine vY hp (thn h4 λ_ s5 zq=> ?_);erw[zq,x,H5,I5,r5,y5,ad,ak];have al:=I5.pinned (Z ak) (T.obj _ _ ad);refine vY hp (thn (hg _ s5 σ3 H5 x u _ al r5 (step x H5 y5)) λ_ s6 zq=> ?_);erw[zq,σ6,H6,I6,q6];refine vY hp (thn (U _ s6 σ6 H6 _ I6 q6) λf s7 q7=> ?_);have aa:∀{σ7:St}{H7:Hp},Inv X (oq++pinsAt fp s5.heap) σ7 H7 s7->N σ7 H7->∃m,m<n/\∃i σ' H',Inv X oq σ' H' s7/\tn i s7.heap/\(∀b∈fp,H' b=UU)/\W i m σ' H':=λ{σ7 H7} I7 n7=>by
   erw[hN σ7 H7 n7,m',hm,w7];refine⟨m',hm,i+1,σ7,H7,I7.unpinned,T.keep _ _ _ ad λb U o e=>(I7.pin (b,o) (uI _ (uI _ (JT U e)))).1,λb U=> ?_,w7⟩;erw[T.obj _ _ ad b U,o,e,d];exact(I7.pin (b,o) (uI _ (uI _ (JT U e)))).2.1
  cases f with
  |next=>erw[q7,σ7,H7,I7,n7];exact aa I7 n7
  |cont=>erw[q7,σ7,H7,I7,n7];exact aa I7 n7
  |brk=>erw[q7,σ7,H7,I7,q7];exact⟨σ7,H7,I7.unpinned,q7⟩
  |ret v=>erw[q7,x7,σ7,H7,I7,r7,q7];exact⟨x7,σ7,H7,I7.unpinned,r7,q7⟩
end
theorem for_list {K:o0}{a:o3}{xs:oj V}{g:TG}{tb:TS}{D:Ends}{σ:St}{H:Hp}(O:Nat->St->Hp->Prop)(h0:O 0 σ H)(hl:∀i σ H,i<=xs.length->O i σ H->SqL K H a xs)
  (hs:∀i x σ H,xs[i]? =u_ x->O i σ H->g x σ H λZ H2=>tb {D with nx:=O (i+1),ct:=O (i+1),bk:=D.nx} Z H2) (hd:∀σ H,O xs.length σ H->D.nx σ H):
  ∃W:Nat->Nat->St->Hp->Prop,(∃m,W 0 m σ H)/\∀i m σ H,W i m σ H->
   ((Itl K a).stop i H/\D.nx σ H)∨((Itl K a).go i H/\∃N:St->Hp->Prop,(∀σ' H',N σ' H'->∃m',m'<m/\W (i+1) m' σ' H')/\∀x H',(Itl K a).yld i H x H'->g x σ H' λZ H2=>tb {D with nx:=N,ct:=N,bk:=D.nx} Z H2):=by
 exists λi m σ H=>m=xs.length-i/\i<=xs.length/\O i σ H,⟨xs.length,by simp,uU _,h0⟩
 rintro i m σ H ⟨rfl,hi,p⟩;have q:=hl i σ H hi p;by_cases U:i<xs.length
 ·refine .inr ⟨⟨xs,xs[i],q,by simp [U]⟩,O (i+1),λσ' H' p'=>⟨xs.length-(i+1),(),1,U,p'⟩,λx H' y=> ?_⟩
  erw[y,e,y];subst e;exact hs i x σ _ (y xs q) p
 ·have e:i=xs.length:=by omega
  subst e;exact .inl [[xs:q:uh _]:hd σ H p]
theorem zA {K:o0}{a:o3}{xs:oj V}{g:TG}{tb:TS}{D:Ends}{σ:St}{H:Hp}(O:Nat->St->Hp->Prop)(h0:O 0 σ H)(hl:∀i σ H,i<=xs.length->O i σ H->SqT K H a xs)
  (hs:∀i x σ H,xs[i]? =u_ x->O i σ H->g x σ H λZ H2=>tb {D with nx:=O (i+1),ct:=O (i+1),bk:=D.nx} Z H2) (hd:∀σ H,O xs.length σ H->D.nx σ H):
  ∃W:Nat->Nat->St->Hp->Prop,(∃m,W 0 m σ H)/\∀i m σ H,W i m σ H->
   ((Itt K a).stop i H/\D.nx σ H)∨((Itt K a).go i H/\∃N:St->Hp->Prop,(∀σ' H',N σ' H'->∃m',m'<m/\W (i+1) m' σ' H')/\∀x H',(Itt K a).yld i H x H'->g x σ H' λZ H2=>tb {D with nx:=N,ct:=N,bk:=D.nx} Z H2):=by
 exists λi m σ H=>m=xs.length-i/\i<=xs.length/\O i σ H,⟨xs.length,by simp,uU _,h0⟩
 rintro i m σ H ⟨rfl,hi,p⟩;have q:=hl i σ H hi p;by_cases U:i<xs.length
 ·refine .inr ⟨⟨xs,xs[i],q,by simp [U]⟩,O (i+1),λσ' H' p'=>⟨xs.length-(i+1),(),1,U,p'⟩,λx H' y=> ?_⟩
  erw[y,e,y];subst e;exact hs i x σ _ (y xs q) p
 ·have e:i=xs.length:=by omega
  subst e;exact .inl [[xs:q:uh _]:hd σ H p]
theorem ZW {lo:Int}{n:Nat}{g:TG}{tb:TS}{D:Ends}{σ:St}{H:Hp}(O:Nat->St->Hp->Prop)(h0:O 0 σ H)
  (hs:∀i σ H,i<n->O i σ H->g (.int (lo+i)) σ H λZ H2=>tb {D with nx:=O (i+1),ct:=O (i+1),bk:=D.nx} Z H2) (hd:∀σ H,O n σ H->D.nx σ H):
  ∃W:Nat->Nat->St->Hp->Prop,(∃m,W 0 m σ H)/\∀i m σ H,W i m σ H->
   ((Itr lo n).stop i H/\D.nx σ H)∨((Itr lo n).go i H/\∃N:St->Hp->Prop,(∀σ' H',N σ' H'->∃m',m'<m/\W (i+1) m' σ' H')/\∀x H',(Itr lo n).yld i H x H'->g x σ H' λZ H2=>tb {D with nx:=N,ct:=N,bk:=D.nx} Z H2):=by
 exists λi m σ H=>m=n-i/\i<=n/\O i σ H,⟨n,by simp,uU _,h0⟩
 rintro i m σ H ⟨rfl,hi,p⟩;by_cases U:i<n
 ·refine .inr ⟨U,O (i+1),λσ' H' p'=>⟨n-(i+1),(),1,U,p'⟩,λx H' y=> ?_⟩
  erw[y,e,y];subst e y;exact hs i σ _ U p
 ·have e:i=n:=by omega
  subst e;exact .inl [uh _:hd σ H p]
noncomputable abbrev R2:=V->V->Hp->VK->Prop
noncomputable def OpR (X:Cx)(f:o6->o6->Sem o6)(r:R2):Prop:=
 ∀(oq:oj (o3×Obj)) (s:o7) (σ:St) (H:Hp) (x y:V) (v u:o6) (Q:VK),Inv X oq σ H s->RelV x v->RelV y u->r x y H Q->
  UW #[X,X] X.A (f v u) (EP X oq σ Q) X.xe s
noncomputable def UnR (X:Cx)(f:o6->Sem o6)(r:V->Hp->VK->Prop):Prop:=
 ∀(oq:oj (o3×Obj)) (s:o7) (σ:St) (H:Hp) (x:V) (v:o6) (Q:VK),Inv X oq σ H s->RelV x v->r x H Q->
  UW #[X,X] X.A (f v) (EP X oq σ Q) X.xe s
noncomputable def Yx (X:Cx)(f:o6)(r:oj V->Hp->VK->Prop):Prop:=
 ∀(oq:oj (o3×Obj)) (s:o7) (σ:St) (H:Hp) (xs:oj V) (us:oj o6) (Q:VK),Inv X oq σ H s->Vals xs us->r xs H Q->
  UW #[X,X] X.A (call f us) (EP X oq σ Q) X.xe s
noncomputable def TruR (X:Cx)(r:V->Hp->(Bool->Hp->Prop)->Prop):Prop:=
 ∀(oq:oj (o3×Obj)) (s:o7) (σ:St) (H:Hp) (x:V) (v:o6) (Q:Bool->Hp->Prop),Inv X oq σ H s->RelV x v->r x H Q->
  UW #[X,X] X.A (truthy v) (TP X oq σ Q) X.xe s
noncomputable def tOp (r:R2)(ta tb:TE):TE:=λσ H Q=>ta σ H λx H1=>tb σ H1 λy H2=>r x y H2 Q
noncomputable def tUn (r:V->Hp->VK->Prop)(ta:TE):TE:=λσ H Q=>ta σ H λx H1=>r x H1 Q
inductive rI (C:Int->Int->Prop) (g:Int->Int->V) (x:V) (y:V) (H:Hp) (Q:VK):Prop
 |mk (i:_) (j:_) (_:x= .int i) (_:y= .int j) (_:C i j) (_:Q (g i j) H)
inductive rI0 (g:Int->Int->V) (x:V) (y:V) (H:Hp) (Q:VK):Prop
 |mk (i:_) (j:_) (_:x= .int i) (_:y= .int j) (_:Q (g i j) H)
inductive rU (g:Int->V) (x:V) (H:Hp) (Q:VK):Prop
 |mk (i:_) (_:x= .int i) (_:Q (g i) H)
section
variable {X:Cx}{a b c:Expr}{ta tb tc:TE}{pos:Pos}
theorem binT (ha:PE X a ta)(O:PE X b tb){oq:oj (o3×Obj)}{s:o7}{σ:St}{H:Hp}{R:V->V->Hp->Prop}(I:Inv X oq σ H s)
  (h:ta σ H λx H1=>tb σ H1 λy H2=>R x y H2) {Q:o6->o7->Prop}{f:o6->o6->Sem o6}
  (U:∀v u s2 x y H2,Inv X oq σ H2 s2->RelV x v->RelV y u->R x y H2->UW #[X,X] X.A (f v u) Q X.xe s2):
  UW #[X,X] X.A (eval a X.env) (λv Z=>UW #[X,X] X.A (eval b X.env) (λu s₂=>UW #[X,X] X.A (f v u) Q X.xe s₂) X.xe Z) X.xe s:=by
 refine thn (ha oq s σ H _ I h) λv s1 zq=> ?_;erw[zq,x,H1,I1,r1,q1];refine thn (O oq s1 σ H1 _ I1 q1) λu s2 zq=> ?_;erw[zq,y,H2,I2,r2,q2];exact U v u s2 x y H2 I2 r1 r2 q2
theorem qX {O:GC}{r:R2}(U:OpR X (Vo O) r)(ha:PE X a ta)(Z:PE X b tb):PE X (.BinOp a O b pos) (tOp r ta tb):=by
 intro oq s σ H Q I h;exact wpAny_BinOp (binT ha Z I h λv u s2 x y H2 I2 rx ry q=>U oq s2 σ H2 x y v u Q I2 rx ry q)
theorem pe_un {O:UnaryOp}{r:V->Hp->VK->Prop}(U:UnR X (unaryOp O) r)(ha:PE X a ta):PE X (.UnaryOp O a pos) (tUn r ta):=by
 intro oq s σ H Q I h;exact UnaryOp_ (thn (ha oq s σ H _ I h) λv s1 ⟨x,H1,Z,r1,q1⟩=>U oq s1 σ H1 x v Q Z r1 q1)
theorem opI {f:o6->o6->Sem o6}{C:Int->Int->Prop}{g:Int->Int->Int}
  (rule:∀(i j:Int) (t u:Tok) (s:o7) (Q:o6->o7->Prop) (E:o6->o7->Prop),C i j->Q (.int (g i j) s.toks) {s with toks:=s.toks+1}->UW #[X,X] X.A (f (.int i t) (.int j u)) Q E s):
  OpR X f (rI C λi j=> .int (g i j)):=by
 intro oq s σ H x y v u Q I O U h;erw[h,i,j,rfl,rfl,Z,q];erw[O,t,rfl];erw[U,t',rfl];exact rule i j t t' s _ _ Z ⟨.int (g i j),H,I.tok _,⟨0⟩,q⟩
theorem opI0 {f:o6->o6->Sem o6}{g:Int->Int->Int}
  (rule:∀(i j:Int) (t u:Tok) (s:o7) (Q:o6->o7->Prop) (E:o6->o7->Prop),Q (.int (g i j) s.toks) {s with toks:=s.toks+1}->UW #[X,X] X.A (f (.int i t) (.int j u)) Q E s):
  OpR X f (rI0 λi j=> .int (g i j)):=by
 intro oq s σ H x y v u Q I O U h;erw[h,i,j,rfl,rfl,q];erw[O,t,rfl];erw[U,t',rfl];exact rule i j t t' s _ _ ⟨.int (g i j),H,I.tok _,⟨0⟩,q⟩
theorem opB0 {f:o6->o6->Sem o6}{g:Int->Int->Bool}
  (rule:∀(i j:Int) (t u:Tok) (s:o7) (Q:o6->o7->Prop) (E:o6->o7->Prop),Q (.bool (g i j)) s->UW #[X,X] X.A (f (.int i t) (.int j u)) Q E s):
  OpR X f (rI0 λi j=> .bl (g i j)):=by
 intro oq s σ H x y v u Q I O U h;erw[h,i,j,rfl,rfl,q];erw[O,t,rfl];erw[U,t',rfl];exact rule i j t t' s _ _ ⟨.bl (g i j),H,I,1,q⟩
noncomputable def CDiv (i j:Int):Prop:=0<j/\j<1073741824
noncomputable def CPow (i j:Int):Prop:=0<=j/\j<=1000000/\i.natAbs<2^64
noncomputable def CMul (i j:Int):Prop:=(-(2^64)<i/\i<2^64)∨(-(2^64)<j/\j<2^64)
variable {i:Int}
theorem CMul.ok {j:Int}(h:CMul i j):IntMulOk i j:=by
 rcases h with⟨h1,h2⟩|⟨h1,h2⟩
 ·exact .of_left (rM h1 h2)
 ·exact .of_right (rM h1 h2)
theorem ya:OpR X (Vo .Add) (rI0 λi j=> .int (i+j)):=opI0 λ_ _ _ _ _ _ _ q=>add_int q
theorem op_sub:OpR X (Vo .Sub) (rI0 λi j=> .int (i-j)):=opI0 λ_ _ _ _ _ _ _ q=>sub_int q
theorem op_mul:OpR X (Vo .Mult) (rI CMul λi j=> .int (i*j)):=opI λ_ _ _ _ _ _ _ O q=>mul_int q O.ok
theorem kh:OpR X (Vo .FloorDiv) (rI CDiv λi j=> .int (i/j)):=opI λi j _ _ _ _ _ O q=>by
 have h1:(0:Int)<j:=O.1;have h2:j<1073741824:=O.2;exact floordiv_int () (by rwa [Int.fdiv_eq_ediv_of_nonneg i ()]) (.inl (PyProof.noPylong_small ()))
theorem jQ:OpR X (Vo .Mod) (rI (λ_ j=>0<j) λi j=> .int (i%j)):=opI λi j _ _ _ _ _ O q=>by
 have h1:(0:Int)<j:=O;exact mod_int' () (by rwa [Int.fmod_eq_emod_of_nonneg i ()])
theorem op_pow:OpR X (Vo .Pow) (rI CPow λi j=> .int (i^j.toNat)):=opI λ_ _ _ _ _ _ _ O q=>pow_int_small O.1 O.2.1 O.2.2 q
theorem unI {f:o6->Sem o6}{g:Int->Int}
  (rule:∀(i:Int) (t:Tok) (s:o7) (Q:o6->o7->Prop) (E:o6->o7->Prop),Q (.int (g i) s.toks) {s with toks:=s.toks+1}->UW #[X,X] X.A (f (.int i t)) Q E s):
  UnR X f (rU λi=> .int (g i)):=by
 intro oq s σ H x v Q I O h;erw[h,i,rfl,q];erw[O,t,rfl];exact rule i t s _ _ ⟨.int (g i),H,I.tok _,⟨0⟩,q⟩
theorem un_neg:UnR X (unaryOp .USub) (rU λi=> .int (-i)):=unI λ_ _ _ _ _ q=>neg_int q
noncomputable def scal:V->V->Bool
 | .non,.non=>v_| .non,.int _=>v_| .int _,.non=>v_| .non,.bl _=>v_| .bl _,.non=>v_| .non,.str _=>v_| .str _,.non=>v_
 | .int _,.int _=>v_| .bl _,.bl _=>v_| .str _,.str _=>v_| .byt _,.byt _=>v_
 | .int _,.str _=>v_| .str _,.int _=>v_| .bl _,.str _=>v_| .str _,.bl _=>v_
 |_,_=>UV
noncomputable def rEq:R2:=λx y H Q=>scal x y=v_/\Q (.bl (decide (x=y))) H
noncomputable def rNe:R2:=λx y H Q=>scal x y=v_/\Q (.bl (!decide (x=y))) H
theorem dec_int {j:Int}:decide (V.int i=V.int j)=(i==j):=by
 rw [vF];simp
theorem dec_bl {i j:Bool}:decide (V.bl i=V.bl j)=(i==j):=by
 rw [vF];simp
theorem dec_str {i j:Str}:decide (V.str i=V.str j)=(i==j):=by
 rw [vF];simp
theorem dec_byt {i j:Array UInt8}:decide (V.byt i=V.byt j)=(i.toList==j.toList):=by
 rw [vF];cases i;cases j;simp
variable {Q:VK}
theorem Qi {k O:Bool}(I:Inv X oq σ H s)(q:Q (.bl k) H)(e:k=O):EP X oq σ Q (.bool O) s:=by
 subst e;exact⟨.bl k,H,I,1,q⟩
theorem QD:OpR X (V6 .Eq) rEq:=by
 intro oq s σ H x y v u Q I Z O h;erw[h,U,q];cases x with
 |non=>
  cases Z;cases y with
  |non=>cases O;exact PySem.EqNone.eq_none_none (Qi I q (by simp))
  |bl j=>cases O;exact PySem.EqNone.eq_none_bool (Qi I q (by simp))
  |int j=>erw[O,t',rfl];exact PySem.EqNone.eq_none_int (Qi I q (by simp))
  |str j=>erw[O,t',rfl];exact PySem.EqNone.eq_none_str (Qi I q (by simp))
  |_=>exact absurd (show UV=v_ from U) u9
 |bl i=>
  cases Z;cases y with
  |non=>cases O;exact PySem.EqNone.eq_bool_none (Qi I q (by simp))
  |bl j=>cases O;exact eq_bool (Qi I q dec_bl)
  |str j=>erw[O,t',rfl];exact PySem.EqMixed.eq_bool_str (Qi I q (by simp))
  |_=>exact absurd (show UV=v_ from U) u9
 |int i=>
  erw[Z,t,rfl];cases y with
  |non=>cases O;exact PySem.EqNone.eq_int_none (Qi I q (by simp))
  |int j=>erw[O,t',rfl];exact eq_int (Qi I q dec_int)
  |str j=>erw[O,t',rfl];exact PySem.EqMixed.eq_int_str (Qi I q (by simp))
  |_=>exact absurd (show UV=v_ from U) u9
 |str i=>
  erw[Z,t,rfl];cases y with
  |non=>cases O;exact PySem.EqNone.eq_str_none (Qi I q (by simp))
  |bl j=>cases O;exact PySem.EqMixed.eq_str_bool (Qi I q (by simp))
  |int j=>erw[O,t',rfl];exact PySem.EqMixed.eq_str_int (Qi I q (by simp))
  |str j=>erw[O,t',rfl];exact eq_str (Qi I q dec_str)
  |_=>exact absurd (show UV=v_ from U) u9
 |byt i=>
  erw[Z,t,rfl];cases y with
  |byt j=>erw[O,t',rfl];exact PySem.W.eq_bytes (Qi I q dec_byt)
  |_=>exact absurd (show UV=v_ from U) u9
 |_=>cases y<;>exact absurd (show UV=v_ from U) u9
theorem op_ne:OpR X (V6 .NotEq) rNe:=by
 intro oq s σ H x y v u Q I Z O h;erw[h,U,q];cases x with
 |non=>
  cases Z;cases y with
  |non=>cases O;exact PySem.EqNone.ne_none_none (Qi I q (by simp))
  |bl j=>cases O;exact PySem.EqNone.ne_none_bool (Qi I q (by simp))
  |int j=>erw[O,t',rfl];exact PySem.EqNone.ne_none_int (Qi I q (by simp))
  |str j=>erw[O,t',rfl];exact PySem.EqNone.ne_none_str (Qi I q (by simp))
  |_=>exact absurd (show UV=v_ from U) u9
 |bl i=>
  cases Z;cases y with
  |non=>cases O;exact PySem.EqNone.ne_bool_none (Qi I q (by simp))
  |bl j=>cases O;exact ne_bool (Qi I q (congrArg not dec_bl))
  |str j=>erw[O,t',rfl];exact PySem.EqMixed.ne_bool_str (Qi I q (by simp))
  |_=>exact absurd (show UV=v_ from U) u9
 |int i=>
  erw[Z,t,rfl];cases y with
  |non=>cases O;exact PySem.EqNone.ne_int_none (Qi I q (by simp))
  |int j=>erw[O,t',rfl];exact ne_int (Qi I q (congrArg not dec_int))
  |str j=>erw[O,t',rfl];exact PySem.EqMixed.ne_int_str (Qi I q (by simp))
  |_=>exact absurd (show UV=v_ from U) u9
 |str i=>
  erw[Z,t,rfl];cases y with
  |non=>cases O;exact PySem.EqNone.ne_str_none (Qi I q (by simp))
  |bl j=>cases O;exact PySem.EqMixed.ne_str_bool (Qi I q (by simp))
  |int j=>erw[O,t',rfl];exact PySem.EqMixed.ne_str_int (Qi I q (by simp))
  |str j=>erw[O,t',rfl];exact ne_str (Qi I q (congrArg not dec_str))
  |_=>exact absurd (show UV=v_ from U) u9
 |byt i=>
  erw[Z,t,rfl];cases y with
  |byt j=>erw[O,t',rfl];exact PySem.W.ne_bytes (Qi I q (congrArg not dec_byt))
  |_=>exact absurd (show UV=v_ from U) u9
 |_=>cases y<;>exact absurd (show UV=v_ from U) u9
theorem op_lt:OpR X (V6 .Lt) (rI0 λi j=> .bl (decide (i<j))):=opB0 λ_ _ _ _ _ _ _ q=>lt_int q
theorem op_le:OpR X (V6 .LtE) (rI0 λi j=> .bl (decide (i<=j))):=opB0 λ_ _ _ _ _ _ _ q=>le_int q
theorem kz:OpR X (V6 .Gt) (rI0 λi j=> .bl (decide (j<i))):=opB0 λ_ _ _ _ _ _ _ q=>gt_int q
theorem op_ge:OpR X (V6 .GtE) (rI0 λi j=> .bl (decide (j<=i))):=opB0 λ_ _ _ _ _ _ _ q=>ge_int q
theorem op_lt_str:OpR X (V6 .Lt) (λx y H Q=>∃i j,x= .str i/\y= .str j/\Q (.bl (decide (i.cps.toList<j.cps.toList))) H):=by
 intro oq s σ H x y v u Q I O U h;erw[h,i,j,rfl,rfl,q];erw[O,t,rfl];erw[U,t',rfl];exact lt_str (Qi I q rfl)
theorem op_in_str:OpR X (V6 .In) (λx y H Q=>∃i j,x= .str i/\y= .str j/\Q (.bl (!(Gn j i 0 j.length 1).isEmpty)) H):=by
 intro oq s σ H x y v u Q I O U h;erw[h,i,j,rfl,rfl,q];erw[O,t,rfl];erw[U,t',rfl];exact in_str (Qi I q rfl)
theorem YO:OpR X (V6 .Is) (λx y H Q=>y= .non/\Q (.bl (decide (x= .non))) H):=by
 intro oq s σ H x y v u Q I O U h;erw[h,rfl,q];cases U;refine is_none_gen (Qi I q ?_);cases x<;>first
  |(cases O;rfl)
  |(erw[O,t,rfl];rfl)
theorem op_notN:OpR X (V6 .IsNot) (λx y H Q=>y= .non/\Q (.bl (!decide (x= .non))) H):=by
 intro oq s σ H x y v u Q I O U h;erw[h,rfl,q];cases U;refine isnot_none_gen (Qi I q ?_);cases x<;>first
  |(cases O;rfl)
  |(erw[O,t,rfl];rfl)
theorem qC (b:Expr){O:Gb}(h:O≠ .In:=by decide)(h2:O≠ .NotIn:=by decide):Gk O b=false:=by
 have U:(O==CmpOp.In)=false:=by cases O<;>first|rfl|exact absurd rfl h
 have Z:(O==CmpOp.NotIn)=false:=by cases O<;>first|rfl|exact absurd rfl h2
 cases b<;>simp [Gk,U,Z]
theorem YE {O:Gb}{r:R2}(U:OpR X (V6 O) r)(ha:PE X a ta)(Z:PE X b tb)(hm:Gk O b=UV):PE X (.Compare a [O] [b] pos) (tOp r ta tb):=by
 intro oq s σ H Q I h;exact wpAny_Compare1 (binT ha Z I h λv u s2 x y H2 I2 rx ry q=>U oq s2 σ H2 x y v u Q I2 rx ry q) hm
inductive ItTest (Q:(Bool->Hp->Prop)) (x:V) (H':Hp):Prop
 |mk (k:_) (_:x= .bl k) (_:Q k H')
noncomputable def tTest (t:TE):TT:=λσ H Q=>t σ H λx H'=>ItTest Q x H'
theorem qr {O:Gb}{r:R2}(U:OpR X (V6 O) r)(ha:PE X a ta)(Z:PE X b tb)(hm:Gk O b=UV):PT X (.Compare a [O] [b] pos) (tTest (tOp r ta tb)):=by
 intro oq s σ H Q I h;refine rB (thn (ha oq s σ H _ I h) λv s1 ⟨x,H1,I1,r1,q1⟩=>thn (Z oq s1 σ H1 _ I1 q1) λu s2 ⟨y,H2,I2,r2,q2⟩=>
  thn (U oq s2 σ H2 x y v u _ I2 r1 r2 q2) λc s3 ⟨z,H3,I3,r3,k,e,q3⟩=> ?_) hm
 subst e;cases r3;exact vo [H3:I3:q3]
noncomputable def tChain (r r':R2)(ta tb tc:TE):TE:=λσ H Q=>ta σ H λx H1=>tb σ H1 λy H2=>r x y H2 λz H3=>∃k,z= .bl k/\
 (if k=v_ then tc σ H3 λw' H4=>r' y w' H4 Q else Q (.bl UV) H3)
theorem pt_chain {U O:Gb}{r r':R2}(ho:OpR X (V6 U) r)(Z:OpR X (V6 O) r')(ha:PE X a ta)(hb:PE X b tb)(hc:PE X c tc)
  (hm:lastMarks [U,O] [b,c]=UV):PT X (.Compare a [U,O] [b,c] pos) (tTest (tChain r r' ta tb tc)):=by
 intro oq s σ H Q I h;refine isTrue_chain (thn (ha oq s σ H _ I h) λv s1 ⟨x,H1,I1,r1,q1⟩=>test_link (thn (hb oq s1 σ H1 _ I1 q1) λu s2 ⟨y,H2,I2,r2,q2⟩=>
  thn (ho oq s2 σ H2 x y v u _ I2 r1 r2 q2) λd s3 ⟨z,H3,I3,r3,k,e,q3⟩=> ?_)) hm
 subst e;cases r3;refine vo ?_;cases k with
 |false=>
  erw[q3,k',e',q'];cases e';exact ite_ff [H3:I3:q']
 |true=>
  refine ite_tt (test_last (thn (hc oq s3 σ H3 _ I3 q3) λw' s4 ⟨z',H4,I4,r4,q4⟩=>thn (Z oq s4 σ H4 y z' u w' _ I4 r2 r4 q4) λd' s5 zq=> ?_));erw[zq,z2,H5,I5,r5,k2,e2,q5];subst e2;cases r5;exact vo [H5:I5:q5]
noncomputable def TruV (K:o0)(x:V)(H:Hp)(k:Bool):Prop:=
 match x with
 | .non=>k=UV
 | .bl b=>k=b
 | .int i=>k=(i !=0)
 | .str y=>y.length<=UY/\k=((y.length:Int) !=0)
 | .byt y=>y.size<=UY/\k=((y.size:Int) !=0)
 | .ref p=>(∃xs,SqL K H p xs/\k= !xs.isEmpty)∨(∃xs,SqT K H p xs/\k= !xs.isEmpty)∨∃kvs,H p=u_ (.dK kvs)/\k= !kvs.isEmpty
 |_=>False
theorem isEmpty_kv {κ:Type}{kvs:oj (κ×V)}{vs:oj (κ×o6)}(r:KV kvs vs):(!vs.isEmpty)= !kvs.isEmpty:=by
 cases r<;>rfl
variable {its:oj o6}
theorem W1 (r:Vals xs its):(!its.toArray.isEmpty)= !xs.isEmpty:=by
 cases r<;>simp
theorem zW:(UY:Nat)<2^63:=by rw [uA];decide
theorem tru_ok:TruR X (λx H Q=>∃k,TruV X.K x H k/\Q k H):=by
 intro oq s σ H x v Q I Z h;erw[h,k,e,q];have hl:=zW;have hs:UY=16777216:=uA;cases x with
 |non=>
  cases Z;have O:k=false:=e;subst O;exact truthy_none [H:I:q]
 |bl b=>
  cases Z;have O:k=b:=e;subst O;exact vo [H:I:q]
 |int i=>
  erw[Z,t,rfl];have O:k=(i !=0):=e;subst O;exact PySem.P.truthy_int [H:I:q]
 |str y=>
  erw[Z,t,rfl];obtain⟨hy,O⟩:y.length<=UY/\k=((y.length:Int) !=0):=e;subst O;exact PySem.P.truthy_str () [H:I.tok _:q]
 |byt y=>
  erw[Z,t,rfl];obtain⟨hy,O⟩:y.size<=UY/\k=((y.size:Int) !=0):=e;subst O;exact PySem.W.truthy_bytes () [H:I.tok _:q]
 |ref p=>
  cases Z;have O:(∃xs,SqL X.K H p xs/\k= !xs.isEmpty)∨(∃xs,SqT X.K H p xs/\k= !xs.isEmpty)∨∃kvs,H p=u_ (.dK kvs)/\k= !kvs.isEmpty:=e;rcases O with⟨xs,hx,O⟩|⟨xs,hx,O⟩|⟨kvs,hx,O⟩
  ·subst O;erw[I.list hx,its,r,pl,hz];have U:=r.length;exact wpAny_truthy_list pl.isList (by simp only [um];omega) ⟨H,I.tok _,by rwa [W1 r]⟩
  ·subst O;erw[I.tuple hx,its,r,pl,hz];have U:=r.length;exact truthy_tuple pl (by simp only [um];omega) ⟨H,I.tok _,by rwa [W1 r]⟩
  ·subst O;obtain⟨hz,hS,vs,r,m⟩:kvs.length<=UY/\(p==Vf)=UV/\∃vs,KV kvs vs/\s.heap.DictOf (Qo X.prog X.w) p vs:=I.hok p _ hx;have U:kvs.length=vs.length:=Paired.length r;exact wpAny_truthy_dict hS m () ⟨H,I.tok _,by rwa [isEmpty_kv r]⟩
 |_=>exact(show False from e).elim
theorem pt_truth (ha:PE X a ta)(U:∀O,isTrue a X.env O=(do let v<-O;Gi a.pos;VV [v] (truthy v))):
  PT X a (λσ H Q=>ta σ H λx H'=>∃k,TruV X.K x H' k/\Q k H'):=by
 intro oq s σ H Q I h;exact TY (thn (ha oq s σ H _ I h) λv s1 ⟨x,H1,Z,r1,q1⟩=>tru_ok oq s1 σ H1 x v Q Z r1 q1) (U _)
theorem Qh:OpR X (Vo .Add) (λx y H Q=>∃i j,x= .str i/\y= .str j/\i.length+j.length<=UY/\Q (.str (i++j)) H):=by
 intro oq s σ H x y v u Q I O U h;erw[h,i,j,rfl,rfl,Z,q];erw[O,t,rfl];erw[U,t',rfl];exact uX (n:=1) I.tk (add_str (λt' tk htk=>⟨.str (i++j),H,I.tok _,⟨0⟩,q⟩) Z)
theorem xw {x:V}(r:Vals [x] us):∃u,us= [u]/\RelV x u:=by
 cases r with
 |cons O U=>cases U;exact[0:O]
theorem vals2 {x:V}(r:Vals [x,y] us):∃u O,us= [u,O]/\RelV x u/\RelV y O:=by
 cases r with
 |cons U Z=>
  cases Z with
  |cons r3 r4=>cases r4;exact⟨_,0,U,r3⟩
theorem call_abs:Yx X (.builtin "abs") (λxs H Q=>∃i,xs= [.int i]/\Q (.int (if i<0 then-i else i)) H):=by
 intro oq s σ H xs us Q I r h;erw[h,i,rfl,q];erw[xw r,u,rfl,t,rfl];exact uX (n:=1) I.tk (call_abs_int λu tk htk=>⟨.int (if i<0 then-i else i),H,I.tok _,⟨0⟩,q⟩)
theorem call_max2 (U:X.calm=v_):Yx X (.builtin "max") (λxs H Q=>∃i j,xs= [.int i,.int j]/\Q (.int (if j>i then j else i)) H):=by
 intro oq s σ H xs us Q I r h;erw[h,i,j,rfl,q];erw[vals2 r,u,Z,rfl,[t,rfl],[t',rfl]];refine uX (n:=1) I.tk (max_two_ints (I.ok.hd U) λh' tk k htk=>⟨_,H,I.kept k,?_,q⟩);by_cases O:j>i
 ·rw [A3 O,A3 O];exact⟨0⟩
 ·rw [A2 O,A2 O];exact⟨0⟩
theorem call_min2 (U:X.calm=v_):Yx X (.builtin "min") (λxs H Q=>∃i j,xs= [.int i,.int j]/\Q (.int (if j<i then j else i)) H):=by
 intro oq s σ H xs us Q I r h;erw[h,i,j,rfl,q];erw[vals2 r,u,Z,rfl,[t,rfl],[t',rfl]];refine uX (n:=1) I.tk (min_two_ints (I.ok.hd U) λh' tk k htk=>⟨_,H,I.kept k,?_,q⟩);by_cases O:j<i
 ·rw [A3 O,A3 O];exact⟨0⟩
 ·rw [A2 O,A2 O];exact⟨0⟩
theorem YY:Yx X (.type "str") (λxs H Q=>∃i,xs= [.int i]/\i.natAbs.log2<1920/\Q (.str (V3 i)) H):=by
 intro oq s σ H xs us Q I r h;erw[h,i,rfl,O,q];erw[xw r,u,rfl,t,rfl];exact PySem.P.str_of_int O ⟨.str _,H,I.tok _,⟨0⟩,q⟩
theorem call_ord:Yx X (.builtin "ord") (λxs H Q=>∃x,xs= [.str x]/\x.length=1/\Q (.int (x.cps.getD 0 0:Nat)) H):=by
 intro oq s σ H xs us Q I r h;erw[h,x,rfl,O,q];erw[xw r,u,rfl,t,rfl];exact ord_of_one O ⟨.int _,H,I.tok _,⟨0⟩,q⟩
noncomputable def LenV (K:o0)(x:V)(H:Hp)(n:Nat):Prop:=
 match x with
 | .str y=>y.length<=UY/\n=y.length
 | .byt y=>y.size<=UY/\n=y.size
 | .ref p=>(∃xs,SqL K H p xs/\n=xs.length)∨∃xs,SqT K H p xs/\n=xs.length
 |_=>False
theorem kU:Yx X (.builtin "len") (λxs H Q=>∃x n,xs= [x]/\LenV X.K x H n/\Q (.int n) H):=by
 intro oq s σ H xs us Q I r h;erw[h,x,n,rfl,e,q];erw[xw r,u,rfl,Z];have hl:=zW;have hs:UY=16777216:=uA;cases x with
 |str y=>
  erw[Z,t,rfl];obtain⟨hy,U⟩:y.length<=UY/\n=y.length:=e;subst U;exact len_str () ⟨.int _,H,I.tok _,⟨0⟩,q⟩
 |byt y=>
  erw[Z,t,rfl];obtain⟨hy,U⟩:y.size<=UY/\n=y.size:=e;subst U;exact PySem.W.len_bytes () ⟨.int _,H,I.tok _,⟨0⟩,q⟩
 |ref p=>
  cases Z;have U:(∃xs,SqL X.K H p xs/\n=xs.length)∨∃xs,SqT X.K H p xs/\n=xs.length:=e;rcases U with⟨xs,hx,U⟩|⟨xs,hx,U⟩
  ·subst U;erw[I.list hx,its,r',pl,hz];have O:=r'.length;exact R6 pl.isList (by simp only [um];omega) ⟨.int xs.length,H,I.tok _,⟨_,by simp only [um];rw [O]⟩,q⟩
  ·subst U;erw[I.tuple hx,its,r',pl,hz];have O:=r'.length;exact len_tuple pl (by simp only [um];omega) ⟨.int xs.length,H,I.tok _,⟨_,by simp only [um];rw [O]⟩,q⟩
 |_=>exact(show False from e).elim
end
structure ObjM (h:o8)(x dx C:o3)(mA:Str->om o6):Prop where
 obj:h.get? x=u_ (PySem.W.instObj C dx)
 ns:h.Ns1 dx mA
 ne:dx≠x
variable {dx:o3}
theorem lookIn_ns {mA:Str->om o6}(n:h.Ns1 dx mA):∃od,h.get? dx=u_ od/\∀name,PySem.W.lookIn name od=u_ (mA name):=by
 erw[n,o,es,ep,U,hd,Z,_,hm];refine[o:U:λname=> ?_];have e:=hm name;unfold nsFind findBy at e;rw [<-Array.find?_toList] at e;unfold PySem.W.lookIn;rw [hd];dsimp only;split
 ·rename_i y q
  rw [q] at e;exact congrArg u_ e
 ·rename_i q
  rw [q] at e;have a:es.toList.any (·.refKey)=false:=by
   rw [T4];intro y hy;erw[Z y (Array.mem_toList_iff.mp hy),z,t,O];simp [FX,O]
  have a':¬es.toList.any (·.refKey)=true:=by rw [a];exact u9
  rw [A2 a'];exact congrArg u_ e
variable {C:o3}
theorem ObjM.look {x:o3}{mA:Str->om o6}(I:ObjM h x dx C mA):∃od,PySem.W.InstAt h x (PySem.W.instObj C dx) C (u_ od)/\∀name,PySem.W.lookIn name od=u_ (mA name):=
 let⟨od,ho,hl⟩:=lookIn_ns I.ns
 [od:⟨I.obj,1,1,ho⟩:hl]
section
variable {prog:o9}{w:og}{A:oh}{E:o6->o7->Prop}{s:o7}{K:o0}{x dx C f:o3}{mA:Str->om o6}{name:Str}{v:o6}
theorem get_map {O:Bool}{Q:o6->o7->Prop}(X:K.In s.heap)(I:ObjM s.heap x dx C mA)(Z:PySem.W.plainGet K C name=v_)(hh:PySem.W.hasDictIn K C=v_)
  (ha:PySem.W.findIn K (.ref C) name=u_ UU) (hv:mA name=u_ v) (U:PySem.W.handedIn v=v_) (h:Q v {s with toks:=s.toks+1}):
  UW #[w,w] A (HX (.ref x) name O) Q E s:=by
 erw[I.look,od,J,hl];exact PySem.W.get_value X J (PySem.W.plainGet_of Z).1 (PySem.W.findObj_own hh ha rfl (by rw [hl,hv])) U h
theorem get_meth {pl:Sem Bool}{Q:o6×oj o6->o7->Prop}(X:K.In s.heap)(I:ObjM s.heap x dx C mA)(O:PySem.W.plainGet K C name=v_)
  (U:PySem.W.findIn K (.ref C) name=u_ (u_ (.ref f))) (Z:PySem.W.isFn K (.ref f)=v_) (hv:mA name=UU) (h:Q (.ref f,[.ref x]) s):
  UW #[w,w] A (GJ (.ref x) name pl) Q E s:=by
 erw[I.look,od,J,hl];exact PySem.W.method_fn X J (PySem.W.plainGet_of O).1 (PySem.W.plainGet_of O).2 U (beq_iff_eq.mp Z) (by show(PySem.W.lookIn name od).map (·.isSome)=u_ UV;rw [hl,hv];rfl) h
theorem set_map {ns:oj Str}{Q:Unit->o7->Prop}(X:K.In s.heap)(I:ObjM s.heap x dx C mA)
  (hs:PySem.W.findIn K (.ref C) "__setattr__"=u_ (u_ (.builtin "object.__setattr__"))) (hp:PySem.W.plainOver K C=v_) (ht:PySem.W.takerIn K C name=u_ UU) (hh:PySem.W.hasDictIn K C=v_)
  (hw:PySem.Within mA ns) (hsz:ns.length<=UY)
  (h:∀h',ObjM h' x dx C (λy=>if y=name then u_ v else mA y)->Gr dx s.heap h'->Q gV {s with heap:=h',toks:=s.toks+2}):
  UW #[w,w] A (setAttr (.ref x) name v) Q E s:=by
 erw[I.look,od,J,hl];refine PySem.W.set_plain X J hs (PySem.W.osa_open (s:={s with toks:=s.toks+1}) (r:=UU) X J hp ht λb=> ?_)
 erw[PySem.W.any_some hh,cd,hc,Z];have hx:s.heap.get? x=u_ ⟨.ref C,u_ dx,.plain,#[]⟩:=I.obj;refine A4 (uz (A4 (A4 (wpAny_loadPart hx (A4 (PySem.W.Looks.here (s:={s with toks:=s.toks+1}) (PySem.W.looks_clsIn X hc) ?_))))))
 rw [Z];refine uz (a:=u_ dx) (A4 (uz (A4 ?_)));refine wpAny_nsSet1 (s:={s with toks:=s.toks+1}) I.ns λh' O U=> ?_
 erw[O.count (PySem.Within.cons name v hw),oD,ae,af,aa,ac,ad];refine A4 (wpAny_lookBehind aa (by rw [ac];exact pastItsLine_dict (uO ad (by rw [ui];omega))) ?_)
 exact uz (h _ [(U.2 _ (Up I.ne)).trans I.obj:O:I.ne] U)
theorem make_map {R:VX->o7->Prop}{vs:oj o6}{O:oj (Str×o6)}(X:K.In s.heap)(hm:PySem.W.makesIn K C=v_)
  (hi:PySem.W.findIn K (.ref C) "__init__"=u_ (u_ (.ref f))) (U:PySem.W.typeIn K (.ref f)=u_ (.type "function"))
  (h:Vn #[w,w] (A.under (.builtin "type.__call__" [.ref C::vs:O])) (.call (.ref f) [.ref (s.heap.objs.size+1)::vs:O]) (PySem.W.InitBack (s.heap.objs.size+1) R)
   {s with heap:=(s.heap.push PySem.W.emptyDict).push (PySem.W.instObj C s.heap.objs.size)}):
  Vn #[w,w] A (.call (.ref C) [vs:O]) R s:=by
 erw[s,Z,g,d,t,os];exact PySem.W.make_core (PySem.W.makes_of X hm) (PySem.W.looks_findIn X hi) (λself=>PySem.W.bind_fn X self U) (.inl rfl) h
end
noncomputable def putF (f:Str)(v:V):oj (Str×V)->oj (Str×V)
 | []=> [(f,v)]
 |(g,x)::r=>if g=f then(g,v)::r else(g,x)::putF f v r
theorem qH (f g:Str)(v:V):∀fs:oj (Str×V),(putF f v fs).lookup g=if g=f then u_ v else fs.lookup g
 | []=>by
  show Vj g [(f,v)]=_;by_cases h:g=f
  ·have O:(g==f)=true:=beq_iff_eq.mpr h;simp only [Vj,O,A3 h]
  ·have O:(g==f)=false:=beq_eq_false_iff_ne.mpr h;simp only [Vj,O,A2 h]
 |(k,x)::r=>by
  have Z:=qH f g v r;rw [show putF f v ((k,x)::r)=(if k=f then(k,v)::r else(k,x)::putF f v r) from rfl]
  by_cases U:k=f
  ·rw [A3 U];by_cases h:g=k
   ·have O:(g==k)=true:=beq_iff_eq.mpr h;simp only [Vj,O,A3 (h.trans U)]
   ·have O:(g==k)=false:=beq_eq_false_iff_ne.mpr h;simp only [Vj,O,A2 (λe:g=f=>h (e.trans U.symm))]
  ·rw [A2 U];by_cases h:g=k
   ·have O:(g==k)=true:=beq_iff_eq.mpr h;simp only [Vj,O,A2 (λe:g=f=>U (h.symm.trans e))]
   ·have O:(g==k)=false:=beq_eq_false_iff_ne.mpr h;simp only [Vj,O];exact Z
theorem wQ (f:Str)(v:V):∀fs:oj (Str×V),f∈(putF f v fs).map (·.1)/\∀g,g∈fs.map (·.1)->g∈(putF f v fs).map (·.1)
 | []=>⟨by simp [putF],λg h=>by simp at h⟩
 |(k,x)::r=>by
  erw[wQ f v r,U,Z];rw [show putF f v ((k,x)::r)=(if k=f then(k,v)::r else(k,x)::putF f v r) from rfl]
  by_cases O:k=f
  ·rw [A3 O];subst O;exact⟨by simp,λg h=>by simpa using h⟩
  ·rw [A2 O];refine[?_:λg h=> ?_]
   ·rw [uq];exact uc _ U
   ·rw [uq] at h⊢;rcases A5.mp h with e|e
    ·exact A5.mpr (.inl e)
    ·exact uc _ (Z g e)
theorem ZG (f:Str)(v:V):∀fs:oj (Str×V),(putF f v fs).length<=fs.length+1
 | []=>by simp [putF]
 |(k,x)::r=>by
  have U:=ZG f v r;rw [show putF f v ((k,x)::r)=(if k=f then(k,v)::r else(k,x)::putF f v r) from rfl]
  by_cases O:k=f
  ·rw [A3 O,ui,ui];omega
  ·rw [A2 O,ui,ui];omega
variable {v:V}
theorem RelO.some_of {o:om o6}(r:RelO (u_ v) o):∃u,o=u_ u/\RelV v u:=by
 cases o with
 |none=>exact(show False from r).elim
 |some u=>exact[u:1:r]
theorem RelO.none_of {o:om o6}(r:RelO UU o):o=none:=by
 cases o with
 |none=>rfl
 |some u=>exact(show False from r).elim
theorem handed_of (r:RelV v u):PySem.W.handedIn u=true:=by
 cases v with
 |non=>cases(show u=Vy from r);rfl
 |bl b=>cases(show u=Hd b from r);rfl
 |int i=>obtain⟨t,e⟩:=(show∃t,u=VT i t from r);cases e;rfl
 |str x=>obtain⟨t,e⟩:=(show∃t,u=Vh x t from r);cases e;rfl
 |byt b=>obtain⟨t,e⟩:=(show∃t,u=FE b t from r);cases e;rfl
 |flt b=>obtain⟨t,e⟩:=(show∃t,u=HR b t from r);cases e;rfl
 |ref a=>cases(show u=V1 a from r);rfl
 |ty n=>cases(show u=VY n from r);rfl
section
variable {P:o9}{w:og}{H H':Hp}{h h':o8}{a C dx:o3}{fs fs':oj (Str×V)}
theorem kZ (hok:HOk P w H h)(e:H a=u_ (.ins C dx fs)):∃mA,ObjM h a dx C mA/\(∀f,RelO (fs.lookup f) (mA f))/\PySem.Within mA (fs.map (·.1))/\fs.length<=1000/\H dx=u_ (.own a):=by
 obtain⟨d,z,ne,ob,mA,n,r,q⟩:=(show yp P w H h a (.ins C dx fs) from hok a _ e)
 exact⟨mA,[ob:n:ne],r,q,z,d⟩
end
structure Cls (K:o0)(C:o3):Prop where
 pg:PySem.W.plainGet K C HC=v_
 hd:PySem.W.hasDictIn K C=v_
 po:PySem.W.plainOver K C=v_
 sa:PySem.W.findIn K (.ref C) "__setattr__"=u_ (u_ (.builtin "object.__setattr__"))
theorem Cls.get (c:Cls K C)(f:Str):PySem.W.plainGet K C f=true:=c.pg
noncomputable def QI (K:o0)(C:o3)(f:Str):Prop:=PySem.W.findIn K (.ref C) f=u_ UU
theorem QI.taker {f:Str}(n:QI K C f):PySem.W.takerIn K C f=u_ none:=by
 unfold PySem.W.takerIn;rw [show PySem.W.findIn K (.ref C) f=u_ UU from n]
 rfl
structure Meth (K:o0)(C:o3)(m:Str)(f:o3):Prop where
 at_:PySem.W.findIn K (.ref C) m=u_ (u_ (.ref f))
 fn:PySem.W.isFn K (.ref f)=v_
 kp:PySem.W.keepIn K (.ref f)=v_
section
variable {X:Cx}{oq:oj (o3×Obj)}{σ:St}{H:Hp}{s:o7}{a C dx:o3}{fs:oj (Str×V)}{f:Str}{v:V}{A:oh}{E:o6->o7->Prop}
theorem WM {b:Bool}{Q:o6->o7->Prop}(I:Inv X oq σ H s)(e:H a=u_ (.ins C dx fs))(c:Cls X.K C)(n:QI X.K C f)(l:fs.lookup f=u_ v)
  (h:∀u s',Inv X oq σ H s'->RelV v u->Q u s'):UW #[X,X] A (HX (.ref a) f b) Q E s:=by
 erw[kZ I.hok e,mA,O,r,_,_,_];obtain⟨u,U,ru⟩:=RelO.some_of (v:=v) (o:=mA f) (by rw [<-l];exact r f)
 exact get_map I.kIn O (c.get f) c.hd n U (handed_of ru) (h u _ (I.tok _) ru)
theorem W3 {m:Str}{g:o3}{pl:Sem Bool}{Q:o6×oj o6->o7->Prop}(I:Inv X oq σ H s)(e:H a=u_ (.ins C dx fs))(c:Cls X.K C)(k:Meth X.K C m g)(l:fs.lookup m=UU)
  (h:Q (.ref g,[.ref a]) s):UW #[X,X] A (GJ (.ref a) m pl) Q E s:=by
 erw[kZ I.hok e,mA,O,r,_,_,_];have hn:mA m=none:=RelO.none_of (by rw [<-l];exact r m)
 exact get_meth I.kIn O (c.get m) k.at_ k.fn hn h
theorem Wm {y:V}{u:o6}{Q:Unit->o7->Prop}(I:Inv X oq σ H s)(e:H a=u_ (.ins C dx fs))(c:Cls X.K C)(n:QI X.K C f)(hl:fs.length<1000)(ry:RelV y u)
  (h:∀s',Inv X oq σ (upd H a (.ins C dx (putF f y fs))) s'->Q gV s'):UW #[X,X] A (setAttr (.ref a) f u) Q E s:=by
 erw[kZ I.hok e,mA,O,r,Z,_,ho];have hz:(fs.map (·.1)).length<=sizeLine:=by rw [ua,uA];omega
 refine set_map I.kIn O c.sa c.po n.taker c.hd Z hz λh' U sb=>h _ ?_;have hd:∃o,h'.get? dx=u_ o:=let⟨o,_,_,e',_⟩:=U.ns;[o:e'];refine I.write (x:=a) (e:=dx) (by rw [e];exact Vp) (.inr ho) (λb q hb z=>(sb.2 b hb).trans z) hd ?_
 refine⟨by rwa [qk O.ne],?_,O.ne,U.obj,_,U.ns,λg=> ?_,λg hg=> ?_⟩
 ·have:=ZG f y fs;omega
 ·show RelO ((putF f y fs).lookup g) (if g=f then u_ u else mA g)
  rw [qH];by_cases q:g=f
  ·rwa [A3 q,A3 q]
  ·rw [A2 q,A2 q];exact r g
 ·by_cases q:g=f
  ·rw [q];exact(wQ f y fs).1
  ·refine(wQ f y fs).2 g (Z g λz=>hg ?_);show(if g=f then u_ u else mA g)=UU
   rw [A2 q];exact z
theorem Inv.made (I:Inv X oq σ H s):Inv X oq σ (upd (upd H s.heap.objs.size (.own (s.heap.objs.size+1))) (s.heap.objs.size+1) (.ins C s.heap.objs.size []))
  {s with heap:=(s.heap.push PySem.W.emptyDict).push (PySem.W.instObj C s.heap.objs.size)}:=by
 have O:(s.heap.push PySem.W.emptyDict).get? s.heap.objs.size=u_ PySem.W.emptyDict:=uE s.heap rfl;have U:((s.heap.push PySem.W.emptyDict).push (PySem.W.instObj C s.heap.objs.size)).get? (s.heap.objs.size+1)=u_ (PySem.W.instObj C s.heap.objs.size):=by
  have:=uE (s.heap.push PySem.W.emptyDict) (o:=PySem.W.instObj C s.heap.objs.size) rfl
  rwa [vk] at this
 have Z:(s.heap.push PySem.W.emptyDict).Ns s.heap.objs.size (λ_=>UU):=⟨PySem.W.emptyDict,#[],_,O,1,(λe he=>absurd he (by simp)),λ_=>rfl⟩
 have I1:=I.laid (a:=s.heap.objs.size) (o:= .own (s.heap.objs.size+1)) (h':=s.heap.push PySem.W.emptyDict) (t':=s.toks) (λb u q=>ue _ q) (uh _) [_:O];refine I1.laid (a:=s.heap.objs.size+1) (o:= .ins C s.heap.objs.size []) (t':=s.toks) (λb u q=>ue _ q) (rq (vk _ _)) ?_;have ne:s.heap.objs.size≠s.heap.objs.size+1:=uN (tE _);refine⟨by rw [qk ne,qi],uU _,ne,U,λ_=>UU,(RG Z).at λo q=>ue _ q,λ_=>Vp,λy hy=>absurd rfl hy⟩
theorem attr_of {prog:o9}{w:og}{env:Env}{e:Expr}{f:Str}{pos:Pos}{s:o7}{Q:o6->o7->Prop}(O:Gf e f env (eval e env)=eval e env)
  (h:UW #[w,w] A (eval e env) (λo U=>UW #[w,w] A (HX o f v_) Q E U) E s):UW #[w,w] A (eval (.Attribute e f pos) env) Q E s:=
 Attribute_any_ h (by rw [arm_eval_Attribute,O])
end
inductive ItFld (K:PySem.W.Frag) (f:Str) (Q:VK) (x:V) (H1:Hp):Prop
 |mk (a:_) (C:_) (dx:_) (fs:_) (v:_) (_:x= .ref a) (_:H1 a=u_ (.ins C dx fs)) (_:Cls K C) (_:QI K C f) (_:fs.lookup f=u_ v) (_:Q v H1)
noncomputable def tFld (K:o0)(ta:TE)(f:Str):TE:=λσ H Q=>ta σ H λx H1=>ItFld K f Q x H1
inductive IsFld (K:PySem.W.Frag) (f:Str) (D:Ends) (σ:St) (y:V) (x:V) (H2:Hp):Prop
 |mk (a:_) (C:_) (dx:_) (fs:_) (_:x= .ref a) (_:H2 a=u_ (.ins C dx fs)) (_:Cls K C) (_:QI K C f) (_:fs.length<1000) (_:D.nx σ (upd H2 a (.ins C dx (putF f y fs))))
noncomputable def sFld (K:o0)(ta tv:TE)(f:Str):TS:=λD σ H=>tv σ H λy H1=>ta σ H1 λx H2=>IsFld K f D σ y x H2
noncomputable def InOp (X:Cx)(op:GC)(rd:V->V->Hp->VK->Prop):Prop:=
 ∀(oq:oj (o3×Obj)) (s:o7) (σ:St) (H:Hp) (x y:V) (u v:o6) (Q:VK),Inv X oq σ H s->RelV x u->RelV y v->rd x y H Q->UW #[X,X] X.A (tZ op u v) (EP X oq σ Q) X.xe s
inductive IsFldAug (K:PySem.W.Frag) (tv:TE) (rd:V->V->Hp->VK->Prop) (f:Str) (D:Ends) (σ:St) (x:V) (H1:Hp):Prop
 |mk (a:_) (C:_) (dx:_) (fs:_) (v:_) (_:x= .ref a) (_:H1 a=u_ (.ins C dx fs)) (_:Cls K C) (_:QI K C f) (_:fs.lookup f=u_ v) (_:tv σ H1 λy H2=>rd v y H2 λz H3=>∃dx' fs',H3 a=u_ (.ins C dx' fs')/\fs'.length<1000/\D.nx σ (upd H3 a (.ins C dx' (putF f z fs'))))
noncomputable def sFldAug (K:o0)(ta tv:TE)(rd:V->V->Hp->VK->Prop)(f:Str):TS:=λD σ H=>ta σ H λx H1=>IsFldAug K tv rd f D σ x H1
section
variable {X:Cx}{o e value:Expr}{f:Str}{pos pos' tpos:Pos}{ta tv:TE}
theorem qN (O:PE X e ta)(U:Gf e f X.env (eval e X.env)=eval e X.env):PE X (.Attribute e f pos) (tFld X.K ta f):=by
 intro oq s σ H Q I h;refine attr_of U (thn (O oq s σ H _ I h) λu s1 zq=> ?_);erw[zq,x,H1,Z,rx,a,C,dx,fs,v,ex,ea,c,n,l,q];subst ex;obtain rfl:u=V1 a:=rx;exact WM Z ea c n l λu' s2 I2 ru=>⟨v,H1,I2,ru,q⟩
theorem Qd (ha:PE X o ta)(O:PE X value tv)(U:Gy value (u_ (.Attribute o f pos')) pos.line X.env=pure UV):PS X (.Assign [.Attribute o f pos'] value pos) (sFld X.K ta tv f):=by
 intro oq s σ H D I h;refine plainObj_wpAny_Assign_Attribute (thn (O oq s σ H _ I h) λu s1 ⟨y,H1,Z,ry,q⟩=>thn (ha oq s1 σ H1 _ Z q) λov s2 zq=> ?_) U;erw[zq,x,H2,I2,rx,a,C,dx,fs,ex,ea,c,n,l,q2];subst ex;obtain rfl:ov=V1 a:=rx;exact Wm I2 ea c n l ry λs3 I3=>⟨σ,_,I3,q2⟩
theorem Jy {Z:GC}{rd:V->V->Hp->VK->Prop}(ha:PE X o ta)(hv:PE X value tv)(O:InOp X Z rd):PS X (.AugAssign (.Attribute o f tpos) Z value pos) (sFldAug X.K ta tv rd f):=by
 intro oq s σ H D I h;refine wpAny_AugAssign_AttributeAny (thn (ha oq s σ H _ I h) λov s1 zq=> ?_);erw[zq,x,H1,I1,rx,a,C,dx,fs,v,ex,ea,c,n,l,q];subst ex;obtain rfl:ov=V1 a:=rx;refine WM I1 ea c n l λu s2 I2 ru=>thn (hv oq s2 σ H1 _ I2 q) λw3 s3 ⟨y,H2,I3,ry,q3⟩=>thn (O oq s3 σ H2 v y u w3 _ I3 ru ry q3) λw4 s4 zq=> ?_;erw[zq,z,H3,I4,rz,dx',fs',U,l',q4];exact Wm I4 U c n l' rz λs5 I5=>⟨σ,_,I5,q4⟩
inductive rAdd (x:V) (y:V) (H:Hp) (Q:VK):Prop
 |mk (i:_) (j:_) (_:x= .int i) (_:y= .int j) (_:Q (.int (i+j)) H)
theorem in_add:InOp X .Add rAdd:=by
 rintro oq s σ H x y u v Q I O U ⟨i,j,rfl,rfl,q⟩;obtain⟨t,rfl⟩:=(show∃t,u=VT i t from O)
 obtain⟨t',rfl⟩:=(show∃t',v=VT j t' from U)
 exact RC ⟨.int (i+j),H,I.tok _,⟨0⟩,q⟩
end
section
variable {X:Cx}{oq:oj (o3×Obj)}{σ:St}{H:Hp}{s:o7}{A:oh}{E:o6->o7->Prop}{Q:o6->o7->Prop}{c:o6}{b:Bool}
inductive TyOf (K:PySem.W.Frag) (H:Hp):V->Value->Prop where
 |non:TyOf K H .non (.type "NoneType")
 |bl (x:Bool):TyOf K H (.bl x) (.type "bool")
 |int (i:Int):TyOf K H (.int i) (.type "int")
 |str (x:Str):TyOf K H (.str x) (.type "str")
 |flt (x:UInt64):TyOf K H (.flt x) (.type "float")
 |lst {a:Addr}{xs:List V} (e:H a=u_ (.lst xs)):TyOf K H (.ref a) (.type "list")
 |frz {a:Addr}{o:Obj}{xs:List V} (e:H a=u_ (.frz o (.lst xs))):TyOf K H (.ref a) (.type "list")
 |tup {a:Addr}{xs:List V} (e:H a=u_ (.tup xs)):TyOf K H (.ref a) (.type "tuple")
 |dK {a:Addr}{kvs:List (Key×V)} (e:H a=u_ (.dK kvs)):TyOf K H (.ref a) (.type "dict")
 |dT {a:Addr}{kvs:List (List Key×V)} (e:H a=u_ (.dT kvs)):TyOf K H (.ref a) (.type "dict")
 |ins {a C dx:Addr}{fs:List (Str×V)} (e:H a=u_ (.ins C dx fs)) (cl:Cls K C) (ha:PySem.W.findIn K (.ref C) "__class__"=u_ (u_ (.builtin "object.__class__")))
   (hn:PySem.W.specialIn K (.builtin "object.__class__") "__get__"=u_ (u_ (.builtin "getset_descriptor.__get__"))) (htk:PySem.W.takesIn K (.builtin "object.__class__")=u_ v_)
   (hm:PySem.W.mroIn K C (.type "object")=u_ v_):TyOf K H (.ref a) (.ref C)
theorem isinst_ok {x:V}{t:o6}(I:Inv X oq σ H s)(U:RelV x u)(ty:TyOf X.K H x t)(e:PySem.W.kitOne X.K t c=u_ b)(h:∀tk,Q (.bool b) {s with toks:=tk}):
  UW #[X,X] A (call (.builtin "isinstance") [u,c]) Q E s:=by
 cases ty with
 |non=>cases(show u=Vy from U);exact vm PySem.W.kitx_none I.kIn Vp e (λz=>nomatch z) h
 |bl y=>cases(show u=Hd y from U);exact vm PySem.W.kitx_bool I.kIn Vp e (λz=>nomatch z) h
 |int i=>obtain⟨t,q⟩:=(show∃t,u=VT i t from U);cases q;exact vm PySem.W.kitx_int I.kIn Vp e (λz=>nomatch z) h
 |str y=>obtain⟨t,q⟩:=(show∃t,u=Vh y t from U);cases q;exact vm PySem.W.kitx_str I.kIn Vp e (λz=>nomatch z) h
 |flt y=>obtain⟨t,q⟩:=(show∃t,u=HR y t from U);cases q;exact vm PySem.W.kitx_float I.kIn Vp e (λz=>nomatch z) h
 | @lst a xs ea=>
  cases(show u=V1 a from U)
  obtain⟨_,_,n,_,h1⟩:=(show yp X.prog X.w H s.heap a (.lst xs) from I.hok a _ ea)
  exact vm PySem.W.kitx_list I.kIn [_:h1:1] e (λz=>nomatch z) h
 | @frz a ob xs ea=>
  cases(show u=V1 a from U)
  obtain⟨_,_,_,n,_,h1⟩:=(show yp X.prog X.w H s.heap a (.frz ob (.lst xs)) from I.hok a _ ea)
  exact vm PySem.W.kitx_list I.kIn [_:h1:1] e (λz=>nomatch z) h
 | @tup a xs ea=>
  cases(show u=V1 a from U)
  obtain⟨_,_,_,p⟩:=(show yp X.prog X.w H s.heap a (.tup xs) from I.hok a _ ea)
  erw[p,o,h1,h2,_];exact vm PySem.W.kitx_tuple I.kIn [o:h1:h2] e (λz=>nomatch z) h
 | @dK a kvs ea=>
  cases(show u=V1 a from U)
  obtain⟨_,_,vs,_,p⟩:=(show yp X.prog X.w H s.heap a (.dK kvs) from I.hok a _ ea)
  erw[p,o,es,ep,h1,h2,_];exact vm PySem.W.kitx_dict I.kIn [o:h1:h2.1] e (λz=>nomatch z) h
 | @dT a kvs ea=>
  cases(show u=V1 a from U)
  obtain⟨_,_,xs,_,o,es,ep,h1,h2,_⟩:=(show yp X.prog X.w H s.heap a (.dT kvs) from I.hok a _ ea)
  exact vm PySem.W.kitx_dict I.kIn [o:h1:h2.1] e (λz=>nomatch z) h
 | @ins a C dx fs ea cl ha hn htk hm=>
  cases(show u=V1 a from U)
  erw[kZ I.hok ea,mA,O,_];erw[O.look,od,J,_];exact vm (PySem.W.kitx_own (cl.get _) cl.hd ha hn htk hm) I.kIn J e (λz=>nomatch z) h
end
structure Room (k:Nat)(A:oh):Prop where
 hd:A.handled=UU
 dp:A.depth+3*k+5<recursionLimit
 un:A.units+16*k+200<V5
variable {j:Nat}
theorem Room.mono {k:Nat}(r:Room k A)(h:j<=k):Room j A:=⟨r.hd,by have:=r.dp;omega,by have:=r.un;omega⟩
theorem Room.deeper {k:Nat}(r:Room (k+1) A)(env:Env):Room k (A.deeper env):=
 ⟨r.hd,by have:=r.dp;show A.depth+1+3*k+5<_;omega,by have:=r.un;show A.units+3+16*k+200<_;omega⟩
theorem make_depth {O:oj (Str×o6)}:(A.under (.builtin "type.__call__" [.ref C::us:O])).depth=A.depth+1:=by
 first|rfl|simp [Hn,Code.weight,Code.isCreation,Code.isGuard,Code.isCaller,Ff,HV,guardIds]
theorem make_units {O:oj (Str×o6)}:(A.under (.builtin "type.__call__" [.ref C::us:O])).units=A.units+1:=by
 first|rfl|simp [Hn,Code.cUnits,Ff,HV]
theorem Room.make {k:Nat}(r:Room (k+1) A)(C:o3)(us:oj o6)(O:oj (Str×o6)):Room k (A.under (.builtin "type.__call__" [.ref C::us:O])):=
 ⟨r.hd,by have:=r.dp;rw [make_depth];omega,by have:=r.un;rw [make_units];omega⟩
theorem Room.depth {k:Nat}(r:Room k A):A.depth<recursionLimit:=by have:=r.dp;omega
theorem Room.units {k:Nat}(r:Room k A):A.units+64<cLine:=by have:=r.un;omega
noncomputable def tNil:TA:=λ_ H Q=>Q [] H
noncomputable def tCons (ta:TE)(tr:TA):TA:=λσ H Q=>ta σ H λx H1=>tr σ H1 λxs H2=>Q (x::xs) H2
section
variable {X:Cx}{e:Expr}{es:oj Expr}{te:TE}{t:TA}{pos:Pos}
theorem qf:PA X [] tNil:=λ_ _ _ _ H Q I h=>tH ⟨[],H,I,.nil,h⟩
theorem qd (ha:PE X e te)(O:PA X es t)(U:U_ (e::es) X.env=(UV,eval e X.env)::U_ es X.env:=by rfl):PA X (e::es) (tCons te t):=by
 intro pos oq s σ H Q I h;rw [U];show UW _ _ (spliced ((UV,eval e X.env)::V8 pos (U_ es X.env))) _ _ s;refine tO (thn (ha oq s σ H _ I h) λu s1 zq=> ?_);erw[zq,x,H1,Z,r1,q1];exact thn (O pos oq s1 σ H1 _ Z q1) λus s2 ⟨xs,H2,I2,r2,q2⟩=>⟨x::xs,H2,I2,.cons r1 r2,q2⟩
noncomputable def tTup (t:TA):TE:=λσ H Q=>t σ H λxs H1=>xs.length<=UY/\∀p,H1 p=UU->Q (.ref p) (upd H1 p (.tup xs))
noncomputable def tLst (t:TA):TE:=λσ H Q=>t σ H λxs H1=>xs.length<=UY/\∀p,H1 p=UU->Q (.ref p) (upd H1 p (.lst xs))
theorem qG {x1}(h:PA X es t):PE X (.Tuple es x1 pos) (tTup t):=by
 intro oq s σ H Q I U;refine wpAny_Tuple_spliced (thn (h pos oq s σ H _ I U) λus s1 ⟨xs,H1,O,r,z,q⟩=>⟨by rwa [<-r.length],?_⟩)
 have Z:H1 s1.heap.objs.size=none:=O.hok.fresh (uh _);refine⟨.ref s1.heap.objs.size,upd H1 s1.heap.objs.size (.tup xs),O.laid (t':=s1.toks) (λb u e=>ue _ e) (uh _) ?_,1,q _ Z⟩;exact⟨z,us,r,⟨_,uE _ rfl,1,0⟩⟩
theorem QK (h:PA X es t):PE X (.List es pos) (tLst t):=by
 intro oq s σ H Q I U;refine wpAny_List_spliced (thn (h pos oq s σ H _ I U) λus s1 ⟨xs,H1,O,r,z,q⟩=>⟨by rwa [<-r.length],?_⟩)
 have Z:H1 s1.heap.objs.size=none:=O.hok.fresh (uh _);refine⟨.ref s1.heap.objs.size,upd H1 s1.heap.objs.size (.lst xs),O.laid (t':=s1.toks) (λb u e=>ue _ e) (uh _) ?_,1,q _ Z⟩;exact⟨z,us,(0),r,uE _ rfl⟩
end
noncomputable abbrev Sp:=oj V->Hp->VK->XK->Prop
noncomputable abbrev CXT:=oj Env->Hp->o7->XK->o6->o7->Prop
structure Env0 (P:o9)(w:og)(K:o0)(mg:Str->om o6)(base:o8)(A:oh)(outer:oj Env)(s:o7)(H:Hp):Prop where
 frames:A.frames=u_ outer
 mod:Mod K mg base
 bs:∀b o,base.get? b=u_ o->s.heap.get? b=u_ o/\H b=UU
 bsz:base.objs.size<=s.heap.objs.size
 funs:s.heap.FunFrames base outer
 frf:∀b∈frs outer,H b=UU
 hok:HOk P w H s.heap
 bare:Vv s.gens
noncomputable def CE (outer:oj Env)(P:o9)(w:og)(H:Hp)(s:o7)(Q:VK)(u:o6)(s':o7):Prop:=
 ∃v H',s'.os=s.os/\Vv s'.gens/\0<s'.toks/\Un (frs outer) [] H H' s.heap s'.heap/\HOk P w H' s'.heap/\RelV v u/\Q v H'
noncomputable def CR (CX:CXT)(outer:oj Env)(P:o9)(w:og)(H:Hp)(s:o7)(Q:VK)(E:XK)(r:VX)(s':o7):Prop:=
 match r with
 | .ok (.ret u)=>CE outer P w H s Q u s'
 | .ok _=>False
 | .error e=>CX outer H s E e s'
structure FnOk (P:o9)(w:og)(K:o0)(mg:Str->om o6)(base:o8)(CX:CXT)(k:Nat)(f:o3)(fd:UX)(ps:oj Str)(sp:Sp):Prop where
 len:∀vs H Q E,sp vs H Q E->vs.length=ps.length
 run:∀(A:oh) (outer:oj Env) (s:o7) (H:Hp) (args:Args) (us:oj o6) (vs:oj V) (Q:VK) (E:XK),Room k A->Env0 P w K mg base A outer s H->gS s fd args (ps.zip us)->Vals vs us->sp vs H Q E->(0<s.toks∨∃x r,ps=x::r/\fd.scope.names.lookup x=u_ .local)->
  Vn (Va P w) A (.call (.ref f) args) (CR CX outer P w H s Q E) s
variable {mg:Str->om o6}
theorem Env0.make {P:o9}{base:o8}{outer:oj Env}(e:Env0 P w K mg base A outer s H)(C:o3)(us:oj o6)(O:oj (Str×o6)):
  Env0 P w K mg base (A.under (.builtin "type.__call__" [.ref C::us:O])) outer s H:=⟨by first|exact e.frames|(simpa [Hn,Code.envs,HV,pushEnvs] using e.frames),e.mod,e.bs,e.bsz,e.funs,e.frf,e.hok,e.bare⟩
section
variable {X:Cx}{oq:oj (o3×Obj)}{σ:St}{H:Hp}{s s':o7}
theorem Inv.env0 (I:Inv X oq σ H s):Env0 X.prog X.w X.K X.mg X.base X.A X.stack s H:=
 ⟨I.ok.frames,I.ok.mod,I.bs,uO I.ok.bsz I.sz,I.stack,I.stkFree,I.hok,I.bare⟩
variable {Q:VK}
theorem Inv.after (I:Inv X oq σ H s)(h:CE X.stack X.prog X.w H s Q u s'):EP X oq σ Q u s':=by
 erw[h,v,H',os,bare,htk,un,hok,r,q];erw[s',U,g,d,t,O];obtain rfl:O=s.os:=os;exact⟨v,H',I.call (h':=U) (g':=g) (d':=d) (t':=t) (ch:= []) un hok bare (λb z=>absurd z (by simp)),r,q⟩
end
noncomputable def tCall (sp:Sp)(dvs:oj V)(E:XK)(t:TA):TE:=λσ H Q=>t σ H λvs H1=>sp (vs++dvs) H1 Q E
inductive ItMeth (C:Addr) (m:Str) (sp:Sp) (dvs:List V) (E:XK) (t:TA) (σ:St) (Q:VK) (x:V) (H1:Hp):Prop
 |mk (a:_) (dx:_) (fs:_) (_:x= .ref a) (_:H1 a=u_ (.ins C dx fs)) (_:fs.lookup m=UU) (_:t σ H1 λvs H2=>sp (x::(vs++dvs)) H2 Q E)
noncomputable def tMeth (C:o3)(m:Str)(sp:Sp)(dvs:oj V)(E:XK)(ta:TE)(t:TA):TE:=λσ H Q=>ta σ H λx H1=>ItMeth C m sp dvs E t σ Q x H1
noncomputable def tMake (C:o3)(sp:Sp)(dvs:oj V)(E:XK)(t:TA):TE:=λσ H Q=>t σ H λvs H1=>∀x dx,H1 x=UU->H1 dx=UU->dx≠x->
 sp (.ref x::(vs++dvs)) (upd (upd H1 dx (.own x)) x (.ins C dx [])) (λv H2=>v= .non/\Q (.ref x) H2) E
noncomputable def zo (K:o0)(fd:UX)(ps:oj Str)(ds:oj o6):Prop:=
 ∀(s:o7) (us:oj o6),K.In s.heap->(us++ds).length=ps.length->gS s fd [us:[]] (ps.zip (us++ds))
theorem zo.all {fd:UX}{ps:oj Str}(h:∀us:oj o6,us.length=ps.length->VS fd [us:[]]=pure (ps.zip us)):zo K fd ps []:=λs us _ O=>by
 rw [v6] at O⊢;exact .of_eq (h us O)
noncomputable def Xu (CX:CXT)(X:Cx)(E:XK):Prop:=∀(oq:oj (o3×Obj)) (σ:St) (H:Hp) (s:o7) (e:o6) (s':o7),Inv X oq σ H s->CX X.stack H s E e s'->X.xe e s'
section
variable {X:Cx}{CX:CXT}{k:Nat}{f C:o3}{fd:UX}{ps:oj Str}{sp:Sp}{dvs:oj V}{ds:oj o6}{E:XK}{x m:Str}{p pos apos:Pos}{e o:Expr}{es:oj Expr}{ta:TE}{t:TA}
theorem run_fn {oq:oj (o3×Obj)}{σ:St}{H:Hp}{s:o7}{Q:VK}{us:oj o6}{vs:oj V}(F:FnOk X.prog X.w X.K X.mg X.base CX k f fd ps sp)(Z:Room k X.A)(hb:zo X.K fd ps ds)(hd:Vals dvs ds)(hx:Xu CX X E)
  (I:Inv X oq σ H s) (r:Vals vs us) (h:sp (vs++dvs) H Q E):UW #[X,X] X.A (call (.ref f) us) (EP X oq σ Q) X.xe s:=by
 have U:Vals (vs++dvs) (us++ds):=r.append hd;have hl:(us++ds).length=ps.length:=by rw [<-U.length];exact F.len _ _ _ _ h
 refine HI (GG (F.run X.A X.stack s H [us:[]] (us++ds) (vs++dvs) Q E Z I.env0 (hb s us I.kIn hl) U h (.inl I.tk)) λr s' O=> ?_);cases r with
 |error e=>exact hx oq σ H s e s' I O
 |ok fl=>
  cases fl with
  |ret u=>exact I.after O
  |next=>exact Vm O
  |brk=>exact Vm O
  |cont=>exact Vm O
theorem qt (F:FnOk X.prog X.w X.K X.mg X.base CX k f fd ps sp)(hr:Room k X.A)(hg:Gl X x)(hm:X.mg x=u_ (.ref f))(hk:PySem.W.keepIn X.K (.ref f)=v_)(hb:zo X.K fd ps ds)(hd:Vals dvs ds)(hx:Xu CX X E)
  (ha:PA X (e::es) t) (O:(x==("__debug__":Str))=UV) (he:U_ (e::es) X.env=(UV,eval e X.env)::U_ es X.env) (U:(V8 pos (U_ es X.env)).any (·.1)=UV):
  PE X (.Call (.Name x p) (e::es) [] pos) (tCall sp dvs E t):=by
 intro oq s σ H Q I h;refine Uy (kl I hg hm ?_ O);refine Uz (h₀:=X.base) I.ok.mod.kin hk (thn (ha pos oq s σ H _ I h) λus s1 ⟨vs,H1,Z,r,q⟩=>[Z.kIn:?_]) he U;exact run_fn F hr hb hd hx Z r q
theorem Qm {pl:Sem Bool}(he:PE X o ta)(c:Cls X.K C)(hm:Meth X.K C m f)(F:FnOk X.prog X.w X.K X.mg X.base CX k f fd ps sp)(hr:Room k X.A)(hb:zo X.K fd ps ds)(hd:Vals dvs ds)(hx:Xu CX X E)(ha:PA X (e::es) t)
  (O:U_ (e::es) X.env=(UV,eval e X.env)::U_ es X.env) (U:(V8 pos (U_ es X.env)).any (·.1)=UV)
  (ht:eval (.Call (.Attribute o m apos) (e::es) [] pos) X.env=(do
   let ov<-eval o X.env
   Gi apos.atName
   let(f,first)<-VV [ov] (GJ ov m pl)
   HF pos f first (V8 pos (U_ (e::es) X.env)) (G9 pos (gZ [] X.env)))):
  PE X (.Call (.Attribute o m apos) (e::es) [] pos) (tMeth C m sp dvs E ta t):=by
 intro oq s σ H Q I h;refine PySem.W.methodCall_KW (pl:=pl) (thn (he oq s σ H _ I h) λu s1 zq=> ?_) ht;erw[zq,x,H1,Z,rx,a,dx,fs,ex,ea,l,q];subst ex;obtain rfl:u=V1 a:=rx;refine W3 Z ea c hm l ?_;refine Uz (first:= [.ref a]) (h₀:=X.base) I.ok.mod.kin hm.kp (thn (ha pos oq s1 σ H1 _ Z q) λus s2 ⟨vs,H2,I2,r,q2⟩=>[I2.kIn:?_]) O U;exact run_fn (us:= .ref a::us) (vs:= .ref a::vs) F hr hb hd hx I2 (.cons rfl r) q2
theorem yc {pl:Sem Bool}(U:PE X o ta)(c:Cls X.K C)(hm:Meth X.K C m f)(F:FnOk X.prog X.w X.K X.mg X.base CX k f fd ps sp)(Z:Room k X.A)(hb:zo X.K fd ps ds)(hd:Vals dvs ds)(hx:Xu CX X E)
  (ht:eval (.Call (.Attribute o m apos) [] [] pos) X.env=(do
   let ov<-eval o X.env
   Gi apos.atName
   let(f,first)<-VV [ov] (GJ ov m pl)
   HF pos f first (V8 pos (U_ [] X.env)) (G9 pos (gZ [] X.env)))):
  PE X (.Call (.Attribute o m apos) [] [] pos) (tMeth C m sp dvs E ta tNil):=by
 intro oq s σ H Q I h;refine PySem.W.methodCall_KW (pl:=pl) (thn (U oq s σ H _ I h) λu s1 zq=> ?_) ht;erw[zq,x,H1,O,rx,a,dx,fs,ex,ea,l,q];subst ex;obtain rfl:u=V1 a:=rx;refine W3 O ea c hm l ?_;exact PySem.W.callWith_K0 (first:= [.ref a]) O.kIn hm.kp (run_fn (us:= [.ref a]) (vs:= [.ref a]) F Z hb hd hx O (.cons rfl .nil) q)
structure Mk (K:o0)(C f:o3):Prop where
 makes:PySem.W.makesIn K C=v_
 init:PySem.W.findIn K (.ref C) "__init__"=u_ (u_ (.ref f))
 fn:PySem.W.isFn K (.ref f)=v_
 kp:PySem.W.keepIn K (.ref C)=v_
theorem run_make {oq:oj (o3×Obj)}{σ:St}{H:Hp}{s:o7}{Q:VK}{us:oj o6}{vs:oj V}(M:Mk X.K C f)(F:FnOk X.prog X.w X.K X.mg X.base CX k f fd ps sp)(hr:Room (k+1) X.A)(hb:zo X.K fd ps ds)(hd:Vals dvs ds)
  (hx:Xu CX X E) (I:Inv X oq σ H s) (r:Vals vs us)
  (h:∀x dx,H x=UU->H dx=UU->dx≠x->sp (.ref x::(vs++dvs)) (upd (upd H dx (.own x)) x (.ins C dx [])) (λv H2=>v= .non/\Q (.ref x) H2) E):
  UW #[X,X] X.A (call (.ref C) us) (EP X oq σ Q) X.xe s:=by
 have Z:=h (s.heap.objs.size+1) s.heap.objs.size (I.hok.fresh (Ha _)) (I.hok.fresh (uh _)) (uN (tE _));have U:=Inv.made (C:=C) I;have r2:Vals (V.ref (s.heap.objs.size+1)::(vs++dvs)) (V1 (s.heap.objs.size+1)::(us++ds)):= .cons rfl (r.append hd);have hl:(V1 (s.heap.objs.size+1)::us++ds).length=ps.length:=by
  have e:=r2.length;rw [F.len _ _ _ _ Z] at e;exact e.symm
 refine HI (make_map (f:=f) I.kIn M.makes M.init (beq_iff_eq.mp M.fn) (GG (F.run _ X.stack _ _ [V1 (s.heap.objs.size+1)::us:[]] (V1 (s.heap.objs.size+1)::(us++ds)) _ _ E (hr.make C us [])
  (U.env0.make C us []) (hb _ (V1 (s.heap.objs.size+1)::us) U.kIn hl) r2 Z (.inl U.tk)) λr s' O=> ?_))
 cases r with
 |error e=>exact hx oq σ _ _ e s' U O
 |ok fl=>
  cases fl with
  |ret u=>
   erw[U.after O,v,H',I3,rv,ev,q3];subst ev;exact[rv:⟨V.ref (s.heap.objs.size+1),H',I3,1,q3⟩]
  |next=>exact Vm O
  |brk=>exact Vm O
  |cont=>exact Vm O
theorem zm (M:Mk X.K C f)(F:FnOk X.prog X.w X.K X.mg X.base CX k f fd ps sp)(hr:Room (k+1) X.A)(hg:Gl X x)(hm:X.mg x=u_ (.ref C))(hb:zo X.K fd ps ds)(hd:Vals dvs ds)(hx:Xu CX X E)
  (ha:PA X (e::es) t) (O:(x==("__debug__":Str))=UV) (he:U_ (e::es) X.env=(UV,eval e X.env)::U_ es X.env) (U:(V8 pos (U_ es X.env)).any (·.1)=UV):
  PE X (.Call (.Name x p) (e::es) [] pos) (tMake C sp dvs E t):=by
 intro oq s σ H Q I h;refine Uy (kl I hg hm ?_ O);refine Uz (h₀:=X.base) I.ok.mod.kin M.kp (thn (ha pos oq s σ H _ I h) λus s1 ⟨vs,H1,Z,r,q⟩=>[Z.kIn:?_]) he U;exact run_make M F hr hb hd hx Z r q
end
structure qv (N P:oj Str)(sc:Vd):Prop where
 kind:sc.kind= .function
 co:sc.isCoroutine=UV
 gen:sc.isGenerator=UV
 nd:N.Nodup
 pre:N.take P.length=P
 par:∀x∈P,sc.names.lookup x=u_ .local∨sc.names.lookup x=u_ .cell
 nofree:∀y∈sc.names,y.2≠ .free
theorem bindL_out {kindOf:Str->om Vt}{x:Str}:∀{binds:oj (Str×o6)}{m:Str->om o6},(∀v,(x,v)∉binds)->Vu kindOf binds m x=m x
 | [],_,_=>rfl
 |(n,v)::r,m,h=>by
  unfold Vu;rw [bindL_out λw O=>h w (uc _ O)];split
  ·have:x≠n:=by rintro rfl;exact h v uf
   simp [this]
  ·rfl
theorem bindC_out {kindOf:Str->om Vt}{x:Str}:∀{binds:oj (Str×o6)}{m:Str->om o6},(∀v,(x,v)∉binds)->Vs kindOf binds m x=m x
 | [],_,_=>rfl
 |(n,v)::r,m,h=>by
  unfold Vs;rw [bindC_out λw O=>h w (uc _ O)];split
  ·rfl
  ·have:x≠n:=by rintro rfl;exact h v uf
   simp [this]
theorem bindL_get {kindOf:Str->om Vt}{x:Str}{v:o6}:∀{P:oj Str}{vs:oj o6}{i:Nat}{m:Str->om o6},P.Nodup->P[i]? =u_ x->vs[i]? =u_ v->kindOf x=u_ .local->
  Vu kindOf (P.zip vs) m x=u_ v
 | [],_,_,_,_,h,_,_=>by simp at h
 |_::_,[],_,_,_,_,h,_=>by simp at h
 |p::P,w::vs,0,m,nd,h1,h2,hk=>by
  simp at h1 h2;subst h1;subst h2;show Vu kindOf ((p,w)::P.zip vs) m p=_;unfold Vu;rw [bindL_out λv O=>(List.nodup_cons.mp nd).1 (Ht O).1,A3 hk];simp
 |p::P,w::vs,i+1,m,nd,h1,h2,hk=>by
  show Vu kindOf ((p,w)::P.zip vs) m x=_;unfold Vu;exact bindL_get (i:=i) (List.nodup_cons.mp nd).2 (by simpa using h1) (by simpa using h2) hk
theorem bindC_get {kindOf:Str->om Vt}{x:Str}{v:o6}:∀{P:oj Str}{vs:oj o6}{i:Nat}{m:Str->om o6},P.Nodup->P[i]? =u_ x->vs[i]? =u_ v->kindOf x≠u_ .local->
  Vs kindOf (P.zip vs) m x=u_ v
 | [],_,_,_,_,h,_,_=>by simp at h
 |_::_,[],_,_,_,_,h,_=>by simp at h
 |p::P,w::vs,0,m,nd,h1,h2,hk=>by
  simp at h1 h2;subst h1;subst h2;show Vs kindOf ((p,w)::P.zip vs) m p=_;unfold Vs;rw [bindC_out λv O=>(List.nodup_cons.mp nd).1 (Ht O).1,A2 hk];simp
 |p::P,w::vs,i+1,m,nd,h1,h2,hk=>by
  show Vs kindOf ((p,w)::P.zip vs) m x=_;unfold Vs;exact bindC_get (i:=i) (List.nodup_cons.mp nd).2 (by simpa using h1) (by simpa using h2) hk
noncomputable def kg (N:oj Str)(vs:oj V):St:=vs.map u_++Fz (N.length-vs.length) UU
noncomputable def cxOf (CX:CXT)(P:o9)(w:og)(K:o0)(mg:Str->om o6)(base:o8)(N:oj Str)(qual:Str)(scope:Vd)(f:o3)(cd:o6)(A:oh)(outer:oj Env)(s:o7)(H:Hp)(E:XK):Cx where
 prog:=P
 w:=w
 K:=K
 mg:=mg
 base:=base
 A:=A.deeper (V0 qual scope s.heap.objs.size f cd)
 N:=N
 s₀:=s
 H₀:=H
 env:=V0 qual scope s.heap.objs.size f cd
 outer:=outer
 stack:=V0 qual scope s.heap.objs.size f cd::outer
 ex:= []
 calm:=v_
 fn:=λ_=>v_
 pn:= []
 xe:=λe s'=>UW (Va P w) (A.deeper (V0 qual scope s.heap.objs.size f cd)) (HG (V0 qual scope s.heap.objs.size f cd) e) (λ_ s''=>CX outer H s E e s'') (λe' s''=>CX outer H s E e' s'') s'
variable {n:Nat}{x:Str}
theorem cell_has {sc:Vd}(h:sc.names.lookup x=u_ .cell):∃c,(gX n sc.names []).lookup x=u_ c:=by
 have q:=PySem.W.cellsFrom_some sc.names n [] (.inl h);exact Option.isSome_iff_exists.mp q
theorem inv_start {CX:CXT}{P:o9}{w:og}{K:o0}{mg:Str->om o6}{base:o8}{N ps:oj Str}{qual:Str}{scope:Vd}{f:o3}{cd:o6}{A:oh}{outer:oj Env}{s s1:o7}{H:Hp}{E:XK}{us:oj o6}{vs:oj V}
  (S:qv N ps scope) (hd:A.handled=UU) (O:Env0 P w K mg base A outer s H) (hl:vs.length=ps.length) (r:Vals vs us)
  (x:Gq s s.heap.objs.size (Vu (V0 qual scope s.heap.objs.size f cd).kindOf (ps.zip us) λ_=>UU) (gX (s.heap.objs.size+1) scope.names []) (Vs (V0 qual scope s.heap.objs.size f cd).kindOf (ps.zip us) λ_=>UU) s1) (ac:0<s1.toks):
  Inv (cxOf CX P w K mg base N qual scope f cd A outer s H E) [] (kg N vs) H s1:=by
 have ad:ps.length<=N.length:=by have:=congrArg VP S.pre;rw [vy] at this;omega
 erw[x.done,h1,tk,rfl,hk];have U:∀b:o3,b∉(cxOf CX P w K mg base N qual scope f cd A outer s H E).ex:=λb z=>absurd (show b∈([]:oj o3) from z) (by simp)
 refine⟨⟨O.mod,S.kind,1,1,uh _,λy z c h1 h2=> ?_,λy Z=> ?_,λy c _ h=> ?_,λ_=>hd,Around.frames_deeper O.frames,.inr [1:1],λb z=>absurd z (U b),O.bs,O.bsz,λb _ _=>U b,λb z=>absurd z (U b),O.funs,O.frf⟩,1,O.bare,Un.kept hk,[_:x.toInCall.ns:λi y v h1 h2 h3=> ?_],λy c h=>[_:x.cell y c h],O.hok.fresh (uh _),λy c h=> ?_,λp hp=>absurd (show p∈([]:oj (o3×Obj)) from hp) (by simp),O.hok.kept hk,?_,ac⟩
 ·exact name_of_addr x.apart (vB h1) (vB h2)
 ·have Z:scope.names.lookup y=u_ .cell∨scope.names.lookup y=u_ .free:=Z;rcases Z with Z|Z
  ·exact cell_has Z
  ·exact absurd rfl (S.nofree _ (vB Z))
 ·exact UO (x.above y c (vB h))
 ·have hi:i<vs.length:=by
   unfold kg at h2;by_cases hi:i<vs.length
   ·exact hi
   ·rw [Uo (by simpa using hi)] at h2
    rw [Fy] at h2;split at h2<;>cases h2
  have ha:vs[i]? =u_ v:=by
   unfold kg at h2;rw [Ur (by simpa using hi),uF] at h2
   cases e:vs[i]? with
   |none=>rw [e] at h2;cases h2
   |some a=>rw [e] at h2;cases h2;rfl
  erw[r.get ha,u,hu,rv];have hp:ps[i]? =u_ y:=by
   rwa [<-S.pre,List.getElem?_take_of_lt ()]
  have aa:ps.Nodup:=by rw [<-S.pre];exact S.nd.sublist (Rb _ _)
  exists u,rv;rcases S.par y (v5 hp) with k|k
  ·exact .inl [k:bindL_get aa hp hu k]
  ·erw[cell_has (n:=s.heap.objs.size+1) k,c,e];refine .inr ⟨.inl k,c,e,?_⟩;have q:=x.cell y c e;rw [bindC_get aa hp hu (by show scope.names.lookup y≠_;rw [k];decide)] at q
   exact q
 ·exact O.hok.fresh (UO (x.above y c (vB h)))
 ·unfold kg;show _=N.length;rw [uu,ua,T6];omega
theorem bindParams1 {M:gQ}{A:oh}{E:o6->o7->Prop}{s₀ s:o7}{m Z:Str->om o6}{env:Env}(f:Str×o6->PUnit->Sem (ForInStep PUnit))(hf:∀n v u,f (n,v) u=(do G_ env n v;pure (.yield ⟨⟩)))(O:env.scope.kind= .function)
  (n:Str) (v:o6) (r:oj (Str×o6)) (Q:PUnit->o7->Prop) (x:Gq s₀ env.locals m env.cells Z s) (hl:env.kindOf n=u_ .local)
  (aa:∀x∈r,env.kindOf x.1=u_ .local∨(env.kindOf x.1=u_ .cell/\(env.cells.lookup x.1).isSome=v_))
  (h:∀s',Gq s₀ env.locals (Vu env.kindOf ((n,v)::r) m) env.cells (Vs env.kindOf ((n,v)::r) Z) s'->0<s'.toks->Q ⟨⟩ s'):UW M A (VD ((n,v)::r) ⟨⟩ f) Q E s:=by
 rw [Ui,hf];refine A4 (A4 (TK hl x.toInCall.ns (λh' ac U=>uz ?_) (by rw [O];rfl)))
 have x1:Gq s₀ env.locals (λy=>if y=n then u_ v else m y) env.cells Z {s with heap:=h',toks:=s.toks+1}:=by
  refine⟨⟨?_,ac,λb o e=> ?_,x.toInCall.fresh⟩,λk c hc=> ?_,x.apart,x.above⟩
  ·erw[x.toInCall.same,h₁,tk,rfl];exact[h':0]
  ·have:=x.toInCall.keep b o e;exact U.extBut b o (uN (V7 (uD e) x.toInCall.fresh)) (x.toInCall.keep b o e)
  ·exact(x.cell k c hc).sameBut U (Uh (x.above k c (mem_of_lookup hc)))
 refine uX (n:=1) (rP (uU _)) (wpAny_bindParams f hf O r _ _ _ _ x1 aa λs' y h1=>h s' ?_ h1);unfold Vu Vs;rw [A3 hl,A3 hl];exact y
theorem newEnv_tk {M:gQ}{A:oh}{E:o6->o7->Prop}{s:o7}{scope:Vd}{globals:o3}{binds:oj (Str×o6)}{qual:Str}{func:om o3}{O:o6}{builtins:o3}{Q:Env->o7->Prop}
  (Z:scope.kind= .function)
  (aa:∀x∈binds,scope.names.lookup x.1=u_ .local∨(scope.names.lookup x.1=u_ .cell/\((gX (s.heap.objs.size+1) scope.names []).lookup x.1).isSome=v_))
  (htk:0<s.toks∨∃n v r,binds=(n,v)::r/\scope.names.lookup n=u_ .local)
  (hq:∀en,en=newEnv scope s.heap.objs.size globals (gX (s.heap.objs.size+1) scope.names []) qual func O UU builtins->
   ∀s',Gq s en.locals (Vu en.kindOf binds λ_=>UU) en.cells (Vs en.kindOf binds λ_=>UU) s'->0<s'.toks->Q en s'):
  UW M A (tR scope globals [] binds qual func O UU builtins) Q E s:=by
 rcases htk with htk|⟨n,v,r,rfl,hl⟩
 ·exact uX (n:=1) htk (wpAny_newFunctionEnv_cells Z aa λenv he s' x h1=>hq env he s' x h1)
 ·simp only [tR,vH,UA,if_false];refine A4 (wpAny_alloc ?_);refine A4 (wpAny_layCells _ (λname kind cells=>by cases ac:kind==VF<;>simp [ac]) _ _ _ _ ?_)
  have U:=cellsFrom_ok scope.names (s.heap.push {cls:= .type "frame",data:= .dict #[]}) (s.heap.objs.size+1) [] [λ_ _ hm=>(nomatch hm):tX] (by rw [vk];exact uh _);rw [vk] at U;rw [show({s with heap:=s.heap.push {cls:= .type "frame",data:= .dict #[]}}:o7).heap.objs.size=s.heap.objs.size+1 from vk ..]
  exact A4 (bindParams1 (s₀:=s) (env:=newEnv scope s.heap.objs.size globals (gX (s.heap.objs.size+1) scope.names []) qual func O UU builtins)
   _ (λ_ _ _=>rfl) Z n v r _
   ⟨⟨⟨_,_,by rfl⟩,(Heap.Ns.new s.heap (.type "frame")).keeps (FW _ _),λb o e=>FW _ _ b o (ue _ e),uh _⟩,
    λm c hc=>(U.empty m c (mem_of_lookup hc)).1,U.apart,λn c hm=>(U.empty n c hm).2⟩
   hl (λy hy=>aa y (uc _ hy)) λs' x h1=>uz (hq _ rfl s' x h1))
theorem fn_of {CX:CXT}{P:o9}{w:og}{K:o0}{mg:Str->om o6}{base:o8}{k:Nat}{f:o3}{name qual:Str}{O:Arguments}{U:oj Stmt}{scope:Vd}{dV kV doc pm cdv ct oc:o6}{an od:om o3}
  {osl:Array (om o6)}{N ps:oj Str}{sp:Sp} (lk:K.lookup f=u_ ⟨oc,od,.func (PySem.W.fnOf name qual O U scope dV kV doc pm an cdv ct),osl⟩) (ae:PySem.W.codeIn K cdv qual=v_) (S:qv N ps scope)
  (len:∀vs H Q E,sp vs H Q E->vs.length=ps.length)
  (Z:∀(A:oh) (outer:oj Env) (s:o7) (H:Hp) (vs:oj V) (Q:VK) (E:XK),Room k (A.deeper (V0 qual scope s.heap.objs.size f cdv))->sp vs H Q E->
   ∃t,PSs (cxOf CX P w K mg base N qual scope f cdv A outer s H E) U t/\t {nx:=λ_ H'=>Q .non H',rt:=Q} (kg N vs) H):
  FnOk P w K mg base CX (k+1) f (PySem.W.fnOf name qual O U scope dV kV doc pm an cdv ct) ps sp:=by
 refine[len:λA outer s H args us vs Q E hr e0 hb r ac htk=> ?_];have hl:=len _ _ _ _ ac;have KX:K.In s.heap:=e0.mod.kin.keeps λb o e=>(e0.bs b o e).1;have af:s.heap.NoLimit:=e0.mod.nolimit.keeps λb o e=>(e0.bs b o e).1;have aa:∀y∈ps.zip us,scope.names.lookup y.1=u_ .local∨(scope.names.lookup y.1=u_ .cell/\((gX (s.heap.objs.size+1) scope.names []).lookup y.1).isSome=v_):=λ⟨n,v⟩ hy=>by
  rcases S.par n (Ht hy).1 with q|q
  ·exact .inl q
  ·exact .inr [q:PySem.W.cellsFrom_some _ _ _ (.inl q)]
 have ad:0<s.toks∨∃n v r,ps.zip us=(n,v)::r/\scope.names.lookup n=u_ .local:=by
  rcases htk with h|⟨y,q,e,hy⟩
  ·exact .inl h
  ·have:us.length=ps.length:=by rwa [<-r.length]
   subst e
   match us,this with
   |u::us',_=>exact .inr ⟨y,u,q.zip us',1,hy⟩
 refine codeAny_call_function hr.depth (KX _ _ lk) rfl S.co S.gen rfl (PySem.W.codeRec_of KX ae) (hb _ _ _ _ ?_);refine newEnv_tk S.kind aa ad λenv he s1 x ag=> ?_;subst he;refine[af.keeps x.toInCall.keep:codeAny_func ?_];erw[Z A outer s H vs Q E (hr.deeper _) ac,t,ht,hq];have I:Inv (cxOf CX P w K mg base N qual scope f cdv A outer s H E) [] (kg N vs) H s1:=inv_start S hr.hd e0 hl r x ag;refine vG (ht [] s1 (kg N vs) H _ I hq) (λfl s' hs=> ?_) λe s' hs=>hs;have fin:∀{σ':St}{H':Hp}{v:V}{u:o6},Inv (cxOf CX P w K mg base N qual scope f cdv A outer s H E) [] σ' H' s'->RelV v u->Q v H'->CE outer P w H s Q u s':=
  λ{σ' H' v u} J rv q=>⟨v,H',J.os,J.bare,J.tk,J.base,J.hok,rv,q⟩
 cases fl with
 |ret u=>
  erw[hs,v,σ',H',J,rv,q];exact fin J rv q
 |next=>
  erw[hs,σ',H',J,q];exact fin (v:=V.non) (u:=Vy) J rfl q
 |brk=>
  erw[hs,_,_,_,q];exact Vm q
 |cont=>
  erw[hs,_,_,_,q];exact Vm q
section
variable {X:Cx}{x:Str}{p pos:Pos}{e:Expr}{es:oj Expr}{t:TA}{id T:String}{r:oj V->Hp->VK->Prop}
noncomputable def tCB (r:oj V->Hp->VK->Prop)(t:TA):TE:=λσ H Q=>t σ H λvs H1=>r vs H1 Q
theorem qz (Z:Yx X (.builtin id) r)(hg:Gl X x)(hm:X.mg x=UU)(hv:gO x=u_ (.builtin id))(ha:PA X (e::es) t)(hn:x≠"__name__")(O:(x==("__debug__":Str))=UV)
  (he:U_ (e::es) X.env=(UV,eval e X.env)::U_ es X.env) (U:(V8 pos (U_ es X.env)).any (·.1)=UV):PE X (.Call (.Name x p) (e::es) [] pos) (tCB r t):=by
 intro oq s σ H Q I h;refine Uy (W6 I hg hm hv ?_ hn O);exact Rz (thn (ha pos oq s σ H _ I h) λus s1 ⟨vs,H1,I1,r1,q1⟩=>Z oq s1 σ H1 vs us Q I1 r1 q1) he U
theorem qY (Z:Yx X (.type T) r)(hg:Gl X x)(hm:X.mg x=UU)(hv:gO x=u_ (.type T))(ha:PA X (e::es) t)(hn:x≠"__name__")(O:(x==("__debug__":Str))=UV)
  (he:U_ (e::es) X.env=(UV,eval e X.env)::U_ es X.env) (U:(V8 pos (U_ es X.env)).any (·.1)=UV):PE X (.Call (.Name x p) (e::es) [] pos) (tCB r t):=by
 intro oq s σ H Q I h;refine Uy (W6 I hg hm hv ?_ hn O);exact vN (thn (ha pos oq s σ H _ I h) λus s1 ⟨vs,H1,I1,r1,q1⟩=>Z oq s1 σ H1 vs us Q I1 r1 q1) he U
end
end L2
namespace HT
open PySem PyProof.Rows
section
variable {prog:o9}{w:og}{A:oh}{E:o6->o7->Prop}{s:o7}
theorem cat_tup {t b:o3}{vs ws:oj o6}{Q:o6->o7->Prop}(ht:gR s.heap t vs.toArray)(hb:gR s.heap b ws.toArray)(hv:vs≠ [])
  (h1:ws= []->Q (.ref t) s) (h2:ws≠ []->Q (.ref s.heap.objs.size) {s with heap:=s.heap.push {cls:= .type "tuple",data:= .seq (vs++ws).toArray}})
  (hsz:vs.length+ws.length<=UY):UW #[w,w] A (Vo .Add (.ref t) (.ref b)) Q E s:=by
 erw[id ht,[cls,dd,data,sl],ho,hc,n,hd];erw[id hb,[ae,U,ad,Z],O,aa,n2,ac];simp only at hc hd aa ac;subst hc hd aa ac;have e:vs.toArray++ws.toArray=(vs++ws).toArray:=by simp
 by_cases hw:ws= []
 ·exact T5 [_:ho:1] [_:O:1] tW tF PySem.F.slot_tuple_add UB (Uu _ _)
   (tuple_addW1 t b vs.toArray ws.toArray n n2 dd U sl Z (by simpa using hv) (by simp [hw])) [ho:O:h1 hw]
 ·refine T5 [_:ho:1] [_:O:1] tW tF PySem.F.slot_tuple_add UB (Uu _ _)
   (tuple_addW2 t b vs.toArray ws.toArray n n2 dd U sl Z (by simpa using hv) (by simpa using hw) (by rwa [um,um])) [ho:O:?_]
  rw [e];exact h2 hw
noncomputable def sIx (n d:Nat):om Int->Nat
 |none=>d
 |some v=>if v<0 then(v+(n:Int)).toNat else min v.toNat n
theorem sIx_none (n d:Nat):sIx n d UU=d:=rfl
theorem sIx_nat (n d k:Nat):sIx n d (u_ (k:Int))=min k n:=by
 show(if(k:Int)<0 then((k:Int)+(n:Int)).toNat else min (k:Int).toNat n)=min k n
 rw [A2 (),tN]
theorem sIx_le (n d:Nat)(hd:d<=n)(o:om Int):sIx n d o<=n:=by
 cases o with
 |none=>exact hd
 |some v=>
  show(if v<0 then(v+(n:Int)).toNat else min v.toNat n)<=n
  by_cases O:v<0
  ·rw [A3 O];omega
  ·rw [A2 O];exact Nat.min_le_right _ _
theorem clip_eq (v:Int)(n d:Nat):(if v<0 then max (v+(n:Int)) 0 else min v (n:Int))=((sIx n d (u_ v):Nat):Int):=by
 show(if v<0 then max (v+(n:Int)) 0 else min v (n:Int))=(((if v<0 then(v+(n:Int)).toNat else min v.toNat n):Nat):Int)
 by_cases O:v<0
 ·simp only [A3 O];omega
 ·simp only [A2 O];omega
theorem adjust_gen (lo hi:om Int)(n:Nat):tQ lo hi 1 (n:Int)=(((sIx n 0 lo:Nat):Int),((sIx n n hi:Nat):Int)):=by
 have h1:¬((1:Int)<0):=by omega
 unfold tQ;simp only [h1,if_false];refine Prod.ext ?_ ?_
 ·cases lo with
  |none=>rfl
  |some v=>exact clip_eq v n 0
 ·cases hi with
  |none=>rfl
  |some v=>exact clip_eq v n n
theorem places_gen (i j:Nat):hX (i:Int) (j:Int) 1=j-i:=by
 unfold hX;have h1:(1:Int)>0:=by omega
 simp only [h1,UT,Int.ediv_one];split<;>omega
theorem kc {v:o6}{o:om Int}{Q:om Int->o7->Prop}(p:Vw v o)(h:Q o s):UW #[w,w] A (Re v) Q E s:=by
 cases p with
 |none=>exact rH h
 |int i t=>exact slicePart_int h
theorem jL {sl:o3}{Z vu:o6}{lo hi:om Int}{n:Nat}{Q:Int×Int×Nat->o7->Prop}(hs:s.heap.IsSliceOf sl Z vu .none)(pl:Vw Z lo)(pu:Vw vu hi)
  (h:Q (((sIx n 0 lo:Nat):Int),1,sIx n n hi-sIx n 0 lo) s):UW #[w,w] A (rE (.ref sl) (pure (n:Int))) Q E s:=by
 erw[id hs,os,O,aa,U];unfold rE Ro;refine A4 (A4 (vv O U (x:=Z) rfl (A4 (vv O U (x:=vu) rfl (A4 (vv O U (x:= .none) rfl (uz ?_)))))));refine A4 (rH ?_);show UW _ _ (if((1:Int)==0)=v_ then _ else _) _ _ s
 rw [A2 ()]
 refine A4 (kc pl (A4 (kc pu (A4 (uz ?_)))));show UW _ _ (match tQ lo hi 1 (n:Int) with|(lo,hi)=>pure (lo,(1:Int),hX lo hi 1)) _ _ s
 rw [adjust_gen lo hi n];show UW _ _ (pure (((sIx n 0 lo:Nat):Int),(1:Int),hX ((sIx n 0 lo:Nat):Int) ((sIx n n hi:Nat):Int) 1)) _ _ s;rw [places_gen];exact uz h
theorem pick_gen (xs:Array o6)(i k:Nat):((V4 k).filterMap λ(m:Nat)=>xs[((i:Int)+(m:Int)*1).toNat]?).toArray=((xs.toList.drop i).take k).toArray:=by
 have e:(λ(m:Nat)=>xs[((i:Int)+(m:Int)*1).toNat]?)=λm=>xs[i+m]? :=by
  funext m
  have:((i:Int)+(m:Int)*1).toNat=i+m:=by omega
  rw [this]
 rw [e];have:=pick_run xs i k;rw [List.filterMap_map] at this;have O:((λx=>xs[x]?)∘λx=>i+x)=λm=>xs[i+m]? :=rfl;rw [O] at this;rw [this]
theorem getItem_tuple_cut {t sl:o3}{items:Array o6}{vl vu:o6}{lo hi:om Int}{Q:o6->o7->Prop}(U:gR s.heap t items)(hs:s.heap.IsSliceOf sl vl vu .none)(pl:Vw vl lo)(pu:Vw vu hi)
  (hw:¬(sIx items.size 0 lo=0/\sIx items.size items.size hi=items.size))
  (h:Q (.ref s.heap.objs.size) {s with heap:=s.heap.push {cls:= .type "tuple",data:= .seq ((items.toList.drop (sIx items.size 0 lo)).take (sIx items.size items.size hi-sIx items.size 0 lo)).toArray}})
  (hsz:items.size<=UY):UW #[w,w] A (Vq (.ref t) (.ref sl)) Q E s:=by
 have O:sizeOk (.seq ((items.toList.drop (sIx items.size 0 lo)).take (sIx items.size items.size hi-sIx items.size 0 lo)).toArray):=by
  show((items.toList.drop (sIx items.size 0 lo)).take (sIx items.size items.size hi-sIx items.size 0 lo)).toArray.size<=UY;rw [um,vy,vz,vb];omega
 have hj:sIx items.size items.size hi<=items.size:=sIx_le _ _ (uh _) hi;erw[id hs,os,Z,aa,ae];have ac:s.TypeIs (.ref sl) "slice":=[os:Z:aa];unfold Vq
 try with_reducible refine Vr ?_
 first|refine A4 (uz ?_)|skip
 refine A4 (TN U.typeIs () ?_)
 refine A4 (vw (name:=G7 "__getitem__") U.typeIs vC
  (vP vC U.typeIs FY ?_ (FL _ _)))
 show UW _ _ (Ts (.ref t)>>=_) _ _ s;refine A4 (rf U ?_);refine A4 (VO ac ?_);rw [A3 ()]
 refine A4 (jL hs pl pu ?_);have ad:¬((((sIx items.size 0 lo:Nat):Int)==0&&(1:Int)==1&&(sIx items.size items.size hi-sIx items.size 0 lo)==items.size)=v_):=by
  intro q;rw [uw,uw] at q;have q1:((sIx items.size 0 lo:Nat):Int)=0:=eq_of_beq q.1.1;have q2:sIx items.size items.size hi-sIx items.size 0 lo=items.size:=eq_of_beq q.2;exact hw [():()]
 show UW _ _ (if(((sIx items.size 0 lo:Nat):Int)==0&&(1:Int)==1&&(sIx items.size items.size hi-sIx items.size 0 lo)==items.size)=v_ then _ else _) _ _ s
 rw [A2 ad,pick_gen]
 first
  |exact A4 (m:=G6 _) (vj (uz ⟨0,uz h⟩) O)
  |exact A4 (m:=G6 _) (vj (A4 (uz (uz ⟨0,uz h⟩))) O)
  |exact A4 (A4 (m:=G6 _) (vj (uz (uz ⟨0,uz h⟩)) O))
  |exact A4 (A4 (m:=G6 _) (vj (uz ⟨0,uz h⟩) O))
end
end HT
namespace L2
open PySem PySem.Spec PyProof.Rows
noncomputable abbrev TO:=St->Hp->(om Int->Hp->Prop)->Prop
noncomputable def PO (X:Cx)(e:om Expr)(t:TO):Prop:=
 ∀(oq:oj (o3×Obj)) (s:o7) (σ:St) (H:Hp) (Q:om Int->Hp->Prop),Inv X oq σ H s->t σ H Q->
  UW #[X,X] X.A (evalPart e X.env) (λu s'=>∃o H',Inv X oq σ H' s'/\Vw u o/\Q o H') X.xe s
noncomputable def tNoPart:TO:=λ_ H Q=>Q UU H
inductive ItPart (Q:(Option Int->Hp->Prop)) (x:V) (H1:Hp):Prop
 |mk (i:_) (_:x= .int i) (_:Q (u_ i) H1)
noncomputable def tPart (t:TE):TO:=λσ H Q=>t σ H λx H1=>ItPart Q x H1
theorem intsAre_of {ns:oj Int}:∀{us:oj o6},Vals (ns.map V.int) us->gN us ns:=by
 induction ns with
 |nil=>intro us r;rw [vR] at r;cases r;exact .nil
 |cons n ns O=>
  intro us r;rw [uq] at r;cases r with
  |cons U Z=>
   erw[U,t,e];subst e;exact .cons n t (O Z)
section
variable {X:Cx}{e:Expr}{te:TE}{lo hi:om Expr}{tl th:TO}{pos p2:Pos}
theorem kE:PO X UU tNoPart:=by
 intro oq s σ H Q I h;rw [HB];exact uz ⟨UU,H,I,.none,h⟩
theorem wm (h:PE X e te):PO X (u_ e) (tPart te):=by
 intro oq s σ H Q I O;rw [rA];refine thn (h oq s σ H _ I O) λu s1 zq=> ?_;erw[zq,x,H1,U,Z,q1];erw[q1,i,rfl,q];erw[Z,t,rfl];exact⟨u_ i,H1,U,.int i t,q⟩
noncomputable def SlR (X:Cx)(r:V->om Int->om Int->Hp->VK->Prop):Prop:=
 ∀(oq:oj (o3×Obj)) (s:o7) (σ:St) (H:Hp) (x:V) (v vl vu:o6) (lo hi:om Int) (sl:o3) (Q:VK),Inv X oq σ H s->RelV x v->s.heap.IsSliceOf sl vl vu .none->Vw vl lo->Vw vu hi->r x lo hi H Q->
  ∃T id,Hc (.type T) "__getitem__"=pure (u_ (.builtin id))/\s.TypeIs v T/\UW #[X,X] X.A (Vq v (.ref sl)) (EP X oq σ Q) X.xe s
theorem SlR.or {r O:V->om Int->om Int->Hp->VK->Prop}(h:SlR X r)(h':SlR X O):SlR X (λx lo hi H Q=>r x lo hi H Q∨O x lo hi H Q):=by
 intro oq s σ H x v U Z lo hi sl Q I rx hs pl pu q;rcases q with q|q
 ·exact h oq s σ H x v U Z lo hi sl Q I rx hs pl pu q
 ·exact h' oq s σ H x v U Z lo hi sl Q I rx hs pl pu q
noncomputable def tSl (r:V->om Int->om Int->Hp->VK->Prop)(te:TE)(tl th:TO):TE:=λσ H Q=>te σ H λx H1=>tl σ H1 λl H2=>th σ H2 λu H3=>r x l u H3 Q
theorem Zx {r:V->om Int->om Int->Hp->VK->Prop}(hr:SlR X r)(he:PE X e te)(hl:PO X lo tl)(hu:PO X hi th):PE X (.Subscript e (.Slice lo hi UU p2) pos) (tSl r te tl th):=by
 intro oq s σ H Q I h;refine Hb (thn (he oq s σ H _ I h) λv s1 zq=> ?_);erw[zq,x,H1,I1,r1,q1];refine rX (thn (hl oq s1 σ H1 _ I1 q1) λU s2 ⟨l,H2,I2,pl,q2⟩=>thn (hu oq s2 σ H2 _ I2 q2) λZ O zq=> ?_);erw[zq,u,H3,I3,pu,q3];rw [HB];refine uz ?_;have I4:Inv X oq σ H3 {O with heap:=O.heap.push {cls:= .type "slice",data:= .fields #[U,Z,.none]}}:=I3.kept (t':=O.toks) λb ob q=>ue _ q
 erw[hr oq {O with heap:=O.heap.push {cls:= .type "slice",data:= .fields #[U,Z,.none]}} σ H3 x v U Z l u O.heap.objs.size Q I4 r1 (TH ..) pl pu q3,T,id,hT,ht,hg]
 show UW #[X,X] X.A (GS e (.Slice lo hi UU p2) v (.ref O.heap.objs.size)) (EP X oq σ Q) X.xe {O with heap:=O.heap.push {cls:= .type "slice",data:= .fields #[U,Z,.none]}}
 exact GO (ops:= [.ref O.heap.objs.size,v]) ht hT hg #[w]
noncomputable def cutV (xs:oj V)(lo hi:om Int):oj V:=(xs.drop (HT.sIx xs.length 0 lo)).take (HT.sIx xs.length xs.length hi-HT.sIx xs.length 0 lo)
theorem wC (xs:oj V)(lo hi:om Int):(cutV xs lo hi).length<=xs.length:=by
 unfold cutV;rw [vy,vz];omega
inductive rSlT (K:PySem.W.Frag) (x:V) (lo:Option Int) (hi:Option Int) (H:Hp) (Q:VK):Prop
 |mk (a:_) (xs:_) (_:x= .ref a) (_:SqT K H a xs) (_:¬(HT.sIx xs.length 0 lo=0/\HT.sIx xs.length xs.length hi=xs.length)) (_:∀p,H p=UU->Q (.ref p) (upd H p (.tup (cutV xs lo hi))))
theorem sl_tup:SlR X (rSlT X.K):=by
 intro oq s σ H x v vl vu lo hi sl Q I rx hs pl pu h;erw[h,a,xs,rfl,hx,hw,q];cases rx;erw[I.tuple hx,its,r,U,Z];have O:its.toArray.size=xs.length:=by rw [um];exact r.length.symm
 exists "tuple",_,PyProof.Rows.slot_tuple_getitem.lookup,U.typeIs;refine HT.getItem_tuple_cut U hs pl pu (by rwa [O]) ?_ (by rwa [O])
 rw [O];refine⟨.ref s.heap.objs.size,_,I.laid (t':=s.toks) (o:= .tup (cutV xs lo hi)) (λb ob q=>ue _ q) (uh _) ?_,1,q _ (I.hok.fresh (uh _))⟩;exact⟨uO (wC xs lo hi) Z,_,(r.drop (HT.sIx xs.length 0 lo)).take (HT.sIx xs.length xs.length hi-HT.sIx xs.length 0 lo),Gm _ _⟩
inductive rCatT (K:PySem.W.Frag) (x:V) (y:V) (H:Hp) (Q:VK):Prop
 |mk (a:_) (b:_) (xs:_) (ys:_) (_:x= .ref a) (_:y= .ref b) (_:SqT K H a xs) (_:SqT K H b ys) (_:xs≠ []) (_:xs.length+ys.length<=UY) (_:(ys= []->Q (.ref a) H)) (_:(ys≠ []->∀p,H p=UU->Q (.ref p) (upd H p (.tup (xs++ys)))))
variable {xs:oj V}{us:oj o6}
theorem Vals.nil_iff (r:Vals xs us):us= []↔xs= []:=by
 cases r with
 |nil=>simp
 |cons _ _=>simp
theorem op_catT:OpR X (Vo .Add) (rCatT X.K):=by
 intro oq s σ H x y v u Q I rx ry h;erw[h,a,b,xs,ys,rfl,rfl,ha,hb,hx,Z,q1,q2];cases rx;cases ry;erw[I.tuple ha,its,U,p1,_];erw[I.tuple hb,aa,O,p2,_];refine HT.cat_tup p1 p2 (λz=>hx (U.nil_iff.mp z)) (λz=>⟨.ref a,H,I,1,q1 (O.nil_iff.mp z)⟩) (λz=> ?_) (by rwa [<-U.length,<-O.length])
 refine⟨.ref s.heap.objs.size,_,I.laid (t':=s.toks) (o:= .tup (xs++ys)) (λb ob q=>ue _ q) (uh _) ?_,1,q2 (λw=>z (O.nil_iff.mpr w)) _ (I.hok.fresh (uh _))⟩;exact⟨by rwa [uu],_,U.append O,Gm _ _⟩
end
noncomputable def ixN (n:Nat)(i:Int):om Nat:=if 0<=i then(if i<n then u_ i.toNat else UU) else if-(n:Int)<=i then u_ (i+n).toNat else UU
noncomputable def atI {α:Type}(xs:oj α)(i:Int):om α:=(ixN xs.length i).bind λj=>xs[j]?
variable {n j:Nat}{i:Int}
theorem ixN_seq (h:ixN n i=u_ j):seqIndex? i n=u_ j/\j<n/\ -(n:Int)<=i/\i<n:=by
 unfold ixN at h;by_cases h0:0<=i
 ·rw [A3 h0] at h;by_cases h1:i<n
  ·rw [A3 h1] at h;have e:i.toNat=j:=uH h;exact⟨by rw [Hs h0 h1,e],(),(),h1⟩
  ·rw [A2 h1] at h;cases h
 ·rw [A2 h0] at h;by_cases h1: -(n:Int)<=i
  ·rw [A3 h1] at h;have e:(i+n).toNat=j:=uH h;exact⟨by rw [tU () h1,e],(),h1,()⟩
  ·rw [A2 h1] at h;cases h
theorem kr {α:Type}{xs:oj α}{v:α}(h:atI xs i=u_ v):∃j,seqIndex? i xs.length=u_ j/\xs[j]? =u_ v/\j<xs.length/\ -(xs.length:Int)<=i/\i<xs.length:=by
 unfold atI at h;cases e:ixN xs.length i with
 |none=>rw [e] at h;cases h
 |some j=>
  rw [e] at h;erw[ixN_seq e,h1,h2,h3,h4];exact⟨j,h1,h,h2,h3,h4⟩
theorem Ql {α:Type}{xs:oj α}{v:α}(h:xs[j]? =u_ v):atI xs (j:Int)=u_ v:=by
 have O:j<xs.length:=(Aa.mp h).1;have e:ixN xs.length (j:Int)=u_ j:=by
  unfold ixN;rw [A3 (),A3 ()];simp
 unfold atI;rw [e];exact h
theorem kK {α:Type}(xs:oj α)(v:α):atI (xs++ [v]) (-1)=u_ v:=by
 have O:(xs++ [v]).length=xs.length+1:=by simp
 have e:ixN (xs++ [v]).length (-1)=u_ xs.length:=by
  unfold ixN;rw [O,A2 (),A3 ()]
  congr 1
  omega
 unfold atI;rw [e];show(xs++ [v])[xs.length]? =u_ v;simp
noncomputable def PlainIx (b:Expr):Prop:=∀o i,Gx b UV o i=GK [o,i] (Vq o i)
noncomputable def IxR (X:Cx)(r:R2):Prop:=
 ∀(value slice:Expr) (oq:oj (o3×Obj)) (s:o7) (σ:St) (H:Hp) (x y:V) (v u:o6) (Q:VK),Inv X oq σ H s->RelV x v->RelV y u->r x y H Q->
  Gx slice UV v u=GK [v,u] (Vq v u)->UW #[X,X] X.A (GS value slice v u) (EP X oq σ Q) X.xe s
noncomputable def MtR (X:Cx)(id:String)(r:V->oj V->Hp->VK->Prop):Prop:=
 ∀(oq:oj (o3×Obj)) (s:o7) (σ:St) (H:Hp) (x:V) (xs:oj V) (v:o6) (us:oj o6) (Q:VK),Inv X oq σ H s->RelV x v->Vals xs us->r x xs H Q->
  UW #[X,X] X.A (call (.builtin id) (v::us)) (EP X oq σ Q) X.xe s
section
variable {X:Cx}{a b:Expr}{ta tb:TE}{pos:Pos}
theorem IxR.or {r O:R2}(h:IxR X r)(h':IxR X O):IxR X (λx y H Q=>r x y H Q∨O x y H Q):=by
 intro value slice oq s σ H x y v u Q I U Z q hs;rcases q with q|q
 ·exact h value slice oq s σ H x y v u Q I U Z q hs
 ·exact h' value slice oq s σ H x y v u Q I U Z q hs
theorem qQ {r:R2}(O:IxR X r)(ha:PE X a ta)(U:PE X b tb)(Z:PlainIx b):PE X (.Subscript a b pos) (tOp r ta tb):=by
 intro oq s σ H Q I h;exact Hb (binT ha U I h λv u s2 x y H2 I2 rx ry q=>O a b oq s2 σ H2 x y v u Q I2 rx ry q (Z _ _))
inductive rIxL (K:PySem.W.Frag) (x:V) (y:V) (H:Hp) (Q:VK):Prop
 |mk (p:_) (xs:_) (i:_) (v:_) (_:x= .ref p) (_:y= .int i) (_:SqL K H p xs) (_:atI xs i=u_ v) (_:Q v H)
inductive rIxT (K:PySem.W.Frag) (x:V) (y:V) (H:Hp) (Q:VK):Prop
 |mk (p:_) (xs:_) (i:_) (v:_) (_:x= .ref p) (_:y= .int i) (_:SqT K H p xs) (_:atI xs i=u_ v) (_:Q v H)
inductive rIxS (x:V) (y:V) (H:Hp) (Q:VK):Prop
 |mk (z:_) (i:_) (c:_) (_:x= .str z) (_:y= .int i) (_:z.length<=UY) (_:atI z.cps.toList i=u_ c) (_:Q (.str ⟨#[c]⟩) H)
theorem yd:IxR X (rIxL X.K):=by
 intro value slice oq s σ H x y v u Q I rx ry h Z;erw[h,p,xs,i,z,rfl,rfl,hq,he,q];cases rx;erw[ry,t,rfl];erw[I.list hq,its,r,pl,hz];erw[kr he,j,h1,h2,h3,h4,h5];erw[r.get h2,w,ew,O];have hl:=r.length;have hn:=zW;have fin:EP X oq σ Q w s:=⟨z,H,I,O,q⟩;by_cases h0:0<=i
 ·have U:i.toNat=j:=by
   rw [Hs h0 h5] at h1;exact uH h1
  exact item_listR pl.isList h0 () (by rw [U];simpa using ew) fin Z
 ·have U:(i+(its.toArray.size:Int)).toNat=j:=by
   rw [tU () h4] at h1
   rw [um,<-hl];exact uH h1
  exact T8 (x:=w) pl.isList.typeIs slot_list_getitem.lookup
   (wpAny_getItem_list_neg (Q:=λr s'=>r=w/\EP X oq σ Q r s') pl.isList () (by rw [um]<;>omega) () (by rw [U];simpa using ew) [1:fin]) Z
theorem qP:IxR X (rIxT X.K):=by
 intro value slice oq s σ H x y v u Q I U Z h hs;erw[h,p,xs,i,z,rfl,rfl,hq,he,q];cases U;erw[Z,t,rfl];erw[I.tuple hq,its,r,pl,hz];erw[kr he,j,h1,h2,h3,h4,h5];erw[r.get h2,w,ew,O];have hl:=r.length;have hn:=zW;have fin:EP X oq σ Q w s:=⟨z,H,I,O,q⟩;exact T8 (x:=w) pl.typeIs slot_tuple_getitem.lookup
  (getItem_tuple (j:=j) (Q:=λr s'=>r=w/\EP X oq σ Q r s') pl () () (by rwa [um,<-hl]) (by simpa using ew) [1:fin]) hs
theorem ix_str:IxR X rIxS:=by
 intro value slice oq s σ H x y v u Q I O U h Z;erw[h,z,i,c,rfl,rfl,hz,he,q];erw[O,t,rfl];erw[U,t',rfl];erw[kr he,j,h1,h2,h3,h4,h5];have hl:z.cps.toList.length=z.length:=by simp [Vx]
 rw [hl] at h1 h4 h5;have hn:=zW;exact GO (vI s z t) slot_str_getitem.lookup (getItem_str (c:=c) (by
  have e1:decide (i< -(2^63:Int))=false:=ud ()
  have e2:decide (i≥2^63)=false:=ud ()
  rw [e1,e2,Bool.or_false]) (by rw [h1];simpa using h2) ⟨.str ⟨#[c]⟩,H,I.tok _,⟨0⟩,q⟩) Z
noncomputable def rIx (K:o0):R2:=λx y H Q=>rIxL K x y H Q∨rIxT K x y H Q∨rIxS x y H Q
theorem Xq:IxR X (rIx X.K):=yd.or (qP.or ix_str)
theorem mapSeq_set (its:oj o6)(n j:Nat)(u:o6):Go (·.setIfInBounds j u) {cls:= .type "list",data:= .seq its.toArray n}={cls:= .type "list",data:= .seq (its.set j u).toArray n}:=by
 simp [Go]
theorem Inv.lst {oq:oj (o3×Obj)}{σ:St}{H:Hp}{s:o7}{p:o3}{xs:oj V}(I:Inv X oq σ H s)(h:H p=u_ (.lst xs)):
  ∃(its:oj o6) (n:Nat),Vals xs its/\s.heap.get? p=u_ {cls:= .type "list",data:= .seq its.toArray n}/\xs.length<=sizeLine:=by
 erw[I.hok p _ h,z,its,n,r,e];exact⟨its,n,r,e,z⟩
theorem Inv.lstUpd {oq:oj (o3×Obj)}{σ:St}{H:Hp}{s:o7}{p:o3}{xs ys:oj V}{its its':oj o6}{n O:Nat}{f:Obj->Obj}(I:Inv X oq σ H s)(h:H p=u_ (.lst xs))
  (Z:s.heap.get? p=u_ {cls:= .type "list",data:= .seq its.toArray n}) (U:f {cls:= .type "list",data:= .seq its.toArray n}={cls:= .type "list",data:= .seq its'.toArray O}) (r:Vals ys its') (hz:ys.length<=UY) (t:Nat) (ht:0<t:=by ac_rfl):
  Inv X oq σ (upd H p (.lst ys)) {s with heap:=s.heap.update p f,toks:=t}:=by
 have e:(s.heap.update p f).get? p=u_ {cls:= .type "list",data:= .seq its'.toArray O}:=by
  rw [Hm f Z (by rw [U]<;>rfl),U]
 refine I.write (x:=p) (e:=p) (by rw [h];trivial) (.inl rfl) (λb u hb q=>(tt _ _ (Up hb)).trans q) [_:e] ?_
 exact⟨hz,its',O,r,e⟩
inductive rSetL (o:V) (i:V) (v:V) (H:Hp) (Q:(Hp->Prop)):Prop
 |mk (p:_) (xs:_) (k:_) (j:_) (_:o= .ref p) (_:i= .int k) (_:H p=u_ (.lst xs)) (_:ixN xs.length k=u_ j) (_:Q (upd H p (.lst (xs.set j v))))
theorem set_list:PSet X rSetL:=by
 intro oq s σ H o i v ov iv u Q I ro ri rv h;erw[h,p,xs,k,j,rfl,rfl,hp,hj,q];cases ro;erw[ri,t,rfl];erw[I.lst hp,its,n,r,O,hz];erw[ixN_seq hj,h1,h2,h3,h4];have U:=r.length;have hn:=zW;have I':Inv X oq σ (upd H p (.lst (xs.set j v))) {s with heap:=s.heap.update p (Go (·.setIfInBounds j u))}:=
  I.lstUpd hp O (mapSeq_set its n j u) (r.set rv j) (by rwa [List.length_set]) s.toks
 by_cases h0:0<=k
 ·have Z:k.toNat=j:=by
   rw [Hs h0 h4] at h1;exact uH h1
  exact PySem.W.ki_setAt O h0 () (by rwa [um,<-U]) (by rw [Z];exact[_:I':q])
 ·have Z:(k+(its.toArray.size:Int)).toNat=j:=by
   rw [tU () h3] at h1
   rw [um,<-U];exact uH h1
  exact PySem.W.ki_setBack O () (by rwa [um,<-U]) () (by rw [Z];exact[_:I':q])
theorem slice_bounds (lo hi:om Int)(n:Nat):(VC lo hi UU n).1=((HT.sIx n 0 lo:Nat):Int)/\(VC lo hi UU n).2.1=((HT.sIx n n hi:Nat):Int)/\(VC lo hi UU n).2.2=1:=by
 refine[?_:?_:1]
 ·cases lo with
  |none=>simp [VC,HT.sIx]
  |some i=>
   simp only [VC,HT.sIx,rG,show(1:Int)>0 by decide,UT]
   by_cases h:i<0
   ·simp only [h,UT]<;>omega
   ·simp only [h,if_false]<;>omega
 ·cases hi with
  |none=>simp [VC,HT.sIx]
  |some i=>
   simp only [VC,HT.sIx,rG,show(1:Int)>0 by decide,UT]
   by_cases h:i<0
   ·simp only [h,UT]<;>omega
   ·simp only [h,if_false]<;>omega
theorem kQ (its:oj o6)(lo hi:om Int):Hv its.toArray lo hi UU=((its.drop (HT.sIx its.length 0 lo)).take (HT.sIx its.length its.length hi-HT.sIx its.length 0 lo)).toArray:=by
 erw[slice_bounds lo hi its.toArray.size,h1,h2,h3];unfold Hv;rw [h1,h2,h3];simp only [sliceRange_one,pick_run,um]<;>rfl
inductive rSlL (K:PySem.W.Frag) (x:V) (lo:Option Int) (hi:Option Int) (H:Hp) (Q:VK):Prop
 |mk (a:_) (xs:_) (_:x= .ref a) (_:SqL K H a xs) (_:∀p,H p=UU->Q (.ref p) (upd H p (.lst (cutV xs lo hi))))
theorem sl_list:SlR X (rSlL X.K):=by
 intro oq s σ H x v vl vu lo hi sl Q I Z hs pl pu h;erw[h,a,xs,rfl,hx,q];cases Z;erw[I.list hx,its,r,U,hz];have O:=r.length;exists "list",_,slot_list_getitem.lookup,U.isList.typeIs;refine FH U.isList hs pl pu .none (by simp) ?_ (by rw [um]<;>omega)
 rw [kQ,<-O];refine⟨.ref s.heap.objs.size,_,I.laid (t':=s.toks) (o:= .lst (cutV xs lo hi)) (λb ob q=>ue _ q) (uh _) ?_,1,q _ (I.hok.fresh (uh _))⟩;exact⟨uO (wC xs lo hi) hz,_,(0),(r.drop (HT.sIx xs.length 0 lo)).take (HT.sIx xs.length xs.length hi-HT.sIx xs.length 0 lo),uE _ rfl⟩
noncomputable def Zi:V->Bool
 | .non=>v_
 | .bl _=>v_
 | .int _=>v_
 | .str _=>v_
 |_=>UV
noncomputable def eqV:V->V->Bool
 | .non,.non=>v_
 | .bl a,.bl b=>a==b
 | .bl a,.int b=>(if a then 1 else 0)==b
 | .int a,.bl b=>a==(if b then 1 else 0)
 | .int a,.int b=>a==b
 | .str a,.str b=>a==b
 |_,_=>UV
variable {A:oh}{s:o7}{y:V}{u:o6}
theorem eqAt_V {x:V}{v:o6}(U:RelV y u)(O:RelV x v)(fy:Zi y=v_)(Z:Zi x=v_):Vb A s u v (eqV y x):=by
 cases y with
 |non=>
  cases U;cases x with
  |non=>cases O;exact GZ _
  |bl b=>cases O;exact Rh b
  |int b=>erw[O,t,rfl];exact rR b t
  |str b=>erw[O,t,rfl];exact rZ b t
  |_=>exact absurd (show UV=v_ from Z) u9
 |bl a=>
  cases U;cases x with
  |non=>cases O;exact RK a
  |bl b=>cases O;exact Rj a b
  |int b=>erw[O,t,rfl];exact RJ a b t
  |str b=>erw[O,t,rfl];exact Ru a b t
  |_=>exact absurd (show UV=v_ from Z) u9
 |int a=>
  erw[U,t',rfl];cases x with
  |non=>cases O;exact TR a t'
  |bl b=>cases O;exact Rt a t' b
  |int b=>erw[O,t,rfl];exact tL a t' b t
  |str b=>erw[O,t,rfl];exact Uw a t' b t
  |_=>exact absurd (show UV=v_ from Z) u9
 |str a=>
  erw[U,t',rfl];cases x with
  |non=>cases O;exact Tj a t'
  |bl b=>cases O;exact Rl a t' b
  |int b=>erw[O,t,rfl];exact Ux a t' b t
  |str b=>erw[O,t,rfl];exact UC a t' b t
  |_=>exact absurd (show UV=v_ from Z) u9
 |_=>exact absurd (show UV=v_ from fy) u9
noncomputable def eqU (x:V)(u:o6):Bool:=match u with
 | .none=>eqV .non x
 | .bool b=>eqV (.bl b) x
 | .int i _=>eqV (.int i) x
 | .str z _=>eqV (.str z) x
 |_=>UV
theorem eqU_of {x:V}(r:RelV y u)(f:Zi y=v_):eqU x u=eqV y x:=by
 cases y with
 |non=>cases r;rfl
 |bl b=>cases r;rfl
 |int i=>erw[r,t,rfl];rfl
 |str z=>erw[r,t,rfl];rfl
 |_=>exact absurd (show UV=v_ from f) u9
theorem any_eqU {x:V}:∀{xs:oj V}{us:oj o6},Vals xs us->xs.all Zi=v_->us.any (eqU x)=xs.any λy=>eqV y x
 |_,_,.nil,_=>rfl
 |y::xs,u::us,.cons r t,f=>by
  rw [vn,uw] at f;rw [Ul,Ul,eqU_of r f.1,any_eqU t f.2]
theorem Kn {A:oh}{s:o7}{x:V}{v:o6}(U:RelV x v)(Z:Zi x=v_):∀{xs:oj V}{us:oj o6},Vals xs us->xs.all Zi=v_->∀u∈us,Vb A s u v (eqU x u)
 |_,_,.nil,_=>λu O=>by cases O
 |y::xs,u::us,.cons r t,f=>λu' O=>by
  rw [vn,uw] at f;rcases A5.mp O with rfl|O
  ·rw [eqU_of r f.1];exact eqAt_V r U f.1 Z
  ·exact Kn U Z t f.2 u' O
noncomputable def inV (x:V)(xs:oj V):Bool:=xs.any λy=>eqV y x
inductive rIn (K:PySem.W.Frag) (neg:Bool) (x:V) (y:V) (H:Hp) (Q:VK):Prop
 |mk (p:_) (xs:_) (_:y= .ref p) (_:(SqL K H p xs∨SqT K H p xs)) (_:Zi x=v_) (_:xs.all Zi=v_) (_:Q (.bl (if neg then !inV x xs else inV x xs)) H)
theorem QA:OpR X (V6 .In) (rIn X.K UV):=by
 intro oq s σ H x y v u Q I Z ry h;erw[h,p,xs,rfl,O,fx,fs,q];cases ry;rcases O with O|O
 ·erw[I.list O,its,r,pl,hz];refine FC (eqU x) pl.isList (λw U=>Kn Z fx r fs w (by simpa using U)) ⟨.bl _,H,I,1,?_⟩
  rw [show its.toArray.any (eqU x)=its.any (eqU x) by simp,any_eqU r fs]
  exact q
 ·erw[I.tuple O,its,r,pl,hz];refine rS (eqU x) pl (λw U=>Kn Z fx r fs w (by simpa using U)) ⟨.bl _,H,I,1,?_⟩
  rw [show its.toArray.any (eqU x)=its.any (eqU x) by simp,any_eqU r fs]
  exact q
theorem op_notIn_str:OpR X (V6 .NotIn) (λx y H Q=>∃i j,x= .str i/\y= .str j/\Q (.bl (!(!(Gn j i 0 j.length 1).isEmpty))) H):=by
 intro oq s σ H x y v u Q I O U h;erw[h,i,j,rfl,rfl,q];erw[O,t,rfl];erw[U,t',rfl];exact notIn_str ⟨.bl _,H,I,1,q⟩
theorem qM:Yx X (.builtin "len") (λxs H Q=>∃p ys,xs= [.ref p]/\(SqL X.K H p ys∨SqT X.K H p ys)/\Q (.int ys.length) H):=by
 intro oq s σ H xs us Q I r h;erw[h,p,ys,rfl,U,q];erw[xw r,u,rfl,rx];cases rx;have hn:=zW;rcases U with U|U
 ·erw[I.list U,its,Z,pl,hz];have O:=Z.length;exact R6 pl.isList (by simp only [um]<;>omega) ⟨.int ys.length,H,I.tok _,⟨s.toks+1,by rw [um,O]⟩,q⟩
 ·erw[I.tuple U,its,Z,pl,hz];have O:=Z.length;exact len_tuple pl (by simp only [um]<;>omega) ⟨.int ys.length,H,I.tok _,⟨s.toks+1,by rw [um,O]⟩,q⟩
theorem zS:Yx X (.builtin "len") (λxs H Q=>∃z,xs= [.str z]/\z.length<=UY/\Q (.int z.length) H):=by
 intro oq s σ H xs us Q I r h;erw[h,z,rfl,O,q];erw[xw r,u,rfl,t,rfl];have hn:=zW;exact len_str () ⟨.int z.length,H,I.tok _,⟨0⟩,q⟩
theorem qU:Yx X (.type "tuple") (λxs H Q=>∃p ys,xs= [.ref p]/\((SqL X.K H p ys/\∀l,H l=UU->Q (.ref l) (upd H l (.tup ys)))∨(SqT X.K H p ys/\Q (.ref p) H))):=by
 intro oq s σ H xs us Q I r h;erw[h,p,ys,rfl,h];erw[xw r,u,rfl,rx];cases rx;rcases h with⟨O,q⟩|⟨O,q⟩
 ·erw[I.list O,its,U,pl,Z];have aa:=U.length;refine call_tuple_list pl.isList (λh' kp=> ?_) (by simp only [um]<;>omega)
  have I1:Inv X oq σ H {s with heap:=h'}:=I.kept (t':=s.toks) kp
  have I2:Inv X oq σ (upd H h'.objs.size (.tup ys)) {s with heap:=h'.push {cls:= .type "tuple",data:= .seq its.toArray}}:=
   I1.laid (t':=s.toks) (λb o e=>ue _ e) (uh _) (show yp X.prog X.w _ _ _ (.tup ys) from⟨Z,its,U,Gm _ _⟩)
  exact⟨.ref h'.objs.size,_,I2,1,q _ (I1.hok.fresh (uh _))⟩
 ·erw[I.tuple O,its,U,pl,Z];exact call_tuple_same pl ⟨.ref p,H,I,1,q⟩
noncomputable def tyV (K:o0)(T:String)(x:V)(H:Hp):Prop:=match x with
 | .str _=>T="str"
 | .int _=>T="int"
 | .ref p=>(T="list"/\∃xs,SqL K H p xs)∨(T="tuple"/\∃o,K.lookup p=u_ o/\o.cls= .type "tuple"/\o.dict=UU)∨
   (T="dict"/\((∃kvs,H p=u_ (.dK kvs))∨∃kvs,H p=u_ (.dT kvs)))∨(T="set"/\∃S n,H p=u_ (.set S n))
 |_=>False
variable {oq:oj (o3×Obj)}{σ:St}{H:Hp}
theorem tyV_is {T:String}{x:V}{v:o6}(I:Inv X oq σ H s)(r:RelV x v)(ty:tyV X.K T x H):
  s.TypeIs v T/\∀a,v= .ref a->∃ob,s.heap.get? a=u_ ob/\ob.dict=none:=by
 cases x with
 |str z=>
  erw[r,t,rfl];cases(show T="str" from ty)
  exact[vI s z t:λ_ e=>nomatch e]
 |int i=>
  erw[r,t,rfl];cases(show T="int" from ty)
  exact[typeIs_int s i t:λ_ e=>nomatch e]
 |ref p=>
  cases r;rcases ty with⟨rfl,xs,Z⟩|⟨rfl,o,O,hc,hd⟩|⟨rfl,O⟩|⟨rfl,S,n,O⟩
  ·erw[I.list Z,its,_,pl,_];refine[pl.isList.typeIs:λa e=> ?_];cases e;erw[pl,o,n,e,c,hd,_];exact[o:e:hd]
  ·refine[[o:I.kIn p o O:hc]:λa e=> ?_];cases e;exact[o:I.kIn _ o O:hd]
  ·have z:∃o,s.heap.get? p=u_ o/\o.ExactDict:=by
    rcases O with⟨kvs,O⟩|⟨kvs,O⟩
    ·erw[I.hok p _ O,_,_,_,_,o,_,_,e,ex,_];exact[o:e:ex]
    ·erw[I.hok p _ O,_,_,_,_,o,_,_,e,ex,_];exact[o:e:ex]
   erw[z,o,e,ex];refine[[o:e:ex.1]:λa U=> ?_];cases U;exact[o:e:ex.2.1]
  ·erw[I.hok p _ O,o,_,_,_,e,ex,_];refine[[o:e:ex.1]:λa U=> ?_];cases U;exact[o:e:ex.2.1]
 |_=>exact Vm ty
noncomputable def tBM0 (K:o0)(T:String)(r:V->oj V->Hp->VK->Prop)(to:TE):TE:=λσ H Q=>to σ H λx H1=>tyV K T x H1/\r x [] H1 Q
noncomputable def tBM (K:o0)(T:String)(r:V->oj V->Hp->VK->Prop)(to:TE)(t:TA):TE:=λσ H Q=>to σ H λx H1=>tyV K T x H1/\t σ H1 λxs H2=>r x xs H2 Q
variable {o e:Expr}{es:oj Expr}{to:TE}{t:TA}{name:Str}{apos cpos:Pos}{T id:String}{r:V->oj V->Hp->VK->Prop}
theorem pe_bm0 (pa:HM T)(slot:Slot T name id)(Z:typeOf (.builtin id)=pure (.type "method_descriptor"))(hm:MtR X id r)(ho:PE X o to)
  (O:Gf o name X.env (eval o X.env)=eval o X.env) (U:(apos.endLine==cpos.line)=v_):PE X (.Call (.Attribute o name apos) [] [] cpos) (tBM0 X.K T r to):=by
 intro oq s σ H Q I h;refine wpAny_Call_method0_late O U (thn (ho oq s σ H _ I h) λv s1 zq=> ?_);erw[zq,x,H1,I1,r1,ty,q1];erw[tyV_is I1 r1 ty,h1,h2];exact⟨T,id,pa,slot,Z,h1,h2,U8 rfl (PySem.evalArgs_none (hm oq s1 σ H1 x [] v [] Q I1 r1 .nil q1))⟩
theorem YR (pa:HM T)(slot:Slot T name id)(ac:typeOf (.builtin id)=pure (.type "method_descriptor"))(hm:MtR X id r)(ho:PE X o to)(ha:PA X (e::es) t)
  (U:Gf o name X.env (eval o X.env)=eval o X.env:=by rfl)
  (aa:((V8 cpos (U_ (e::es) X.env)).all (λx=> !x.1)&&(G9 cpos (gZ [] X.env)).all (λx=>x.1.isSome)
   &&decide ((e::es).length+([]:oj Gh).length+(if([]:oj Gh).isEmpty then 0 else 1)<30))=true:=by rfl)
  (Z:(apos.endLine==cpos.line)=true:=by rfl) (hs:U_ (e::es) X.env=(UV,eval e X.env)::U_ es X.env:=by rfl) (O:(V8 cpos (U_ es X.env)).any (·.1)=false:=by rfl):
  PE X (.Call (.Attribute o name apos) (e::es) [] cpos) (tBM X.K T r to t):=by
 intro oq s σ H Q I h;refine wpAny_Call_method_late U aa Z rfl (thn (ho oq s σ H _ I h) λv s1 zq=> ?_);erw[zq,x,H1,I1,r1,ty,q1];erw[tyV_is I1 r1 ty,h1,h2];exists T,id,pa,slot,ac,h1,h2;have hA:=ha cpos oq s1 σ H1 _ I1 q1;rw [hs] at hA⊢;refine U8 (by show(UV||(V8 cpos (U_ es X.env)).any (·.1))=UV;rw [O]<;>rfl) (Uq ?_)
 exact thn hA λus s2 ⟨vs,H2,I2,r2,q2⟩=>hm oq s2 σ H2 x vs v us Q I2 r1 r2 q2
end
noncomputable def MtM (X:Cx)(id:String)(r:V->oj V->Hp->VK->Prop):Prop:=
 ∀(oq:oj (o3×Obj)) (s:o7) (σ:St) (H:Hp) (x:V) (xs:oj V) (v:o6) (us:oj o6) (Q:VK),Inv X oq σ H s->RelV x v->Vals xs us->r x xs H Q->
  UW #[X,X] X.A (call (.builtin id) (v::us)) (EP X oq σ Q) X.xe s
theorem Vals.one:∀{x:V}{us:oj o6},Vals [x] us->∃u,us= [u]/\RelV x u
 |_,_,.cons r .nil=>[0:r]
theorem Vals.zero:∀{us:oj o6},Vals [] us->us= []
 |_,.nil=>rfl
variable {xs:oj V}{us:oj o6}
theorem Vals.dropLast (h:Vals xs us):Vals xs.dropLast us.dropLast:=by
 induction h with
 |nil=>exact .nil
 |cons r t O=>
  cases t with
  |nil=>exact .nil
  |cons q t'=>exact .cons r O
theorem erase_last {α:Type}(l:oj α):l.eraseIdx (l.length-1)=l.dropLast:=by
 induction l with
 |nil=>rfl
 |cons a r O=>
  cases r with
  |nil=>rfl
  |cons b r=>
   have e:(a::b::r).length-1=((b::r).length-1)+1:=by
    have h1:(a::b::r).length=r.length+2:=rfl;have h2:(b::r).length=r.length+1:=rfl;omega
   rw [e,List.eraseIdx_cons_succ,O]
   all_goals rfl
section
variable {X:Cx}{oq:oj (o3×Obj)}{σ:St}{H:Hp}{s:o7}{l b:o3}{xs ys zs:oj V}
theorem Inv.lset {its its':oj o6}{n:Nat}{f:Array o6->Array o6}{t':Nat}(I:Inv X oq σ H s)(O:H l=u_ (.lst xs))
  (e:s.heap.get? l=u_ {cls:= .type "list",data:= .seq its.toArray n}) (U:f its.toArray=its'.toArray) (Z:Vals ys its') (hz:ys.length<=UY) (ht:0<t':=by ac_rfl):
  Inv X oq σ (upd H l (.lst ys)) {s with heap:=s.heap.update l (Go f),toks:=t'}:=by
 have q:=PySem.IsL.update e f;rw [U] at q;refine I.write (x:=l) (e:=l) (by rw [O];exact trivial) (.inl rfl) (λb' u hb hu=>(tt s.heap (Go f) (Up hb)).trans hu) [_:q] ?_
 exact⟨hz,its',_,Z,q⟩
variable {its:oj o6}{t':Nat}
theorem Inv.lnew (I:Inv X oq σ H s)(O:Vals ys its)(U:ys.length<=UY)(Z:0<t':=by ac_rfl):
  Inv X oq σ (upd H s.heap.objs.size (.lst ys)) {s with heap:=s.heap.push {cls:= .type "list",data:= .seq its.toArray},toks:=t'}:=
 I.laid (λ_ _ q=>ue _ q) (uh _) ⟨U,its,(0),O,uE _ rfl⟩
theorem Inv.fresh (I:Inv X oq σ H s):H s.heap.objs.size=none:=I.hok.fresh (uh _)
theorem Inv.lstM (I:Inv X oq σ H s)(O:H l=u_ (.lst xs)):xs.length<=UY/\∃(its:oj o6) (n:Nat),Vals xs its/\xs.length=its.length/\s.heap.get? l=u_ {cls:= .type "list",data:= .seq its.toArray n}:=by
 erw[I.hok l _ O,z,its,n,r,e];exact⟨z,its,n,r,r.length,e⟩
theorem notLongL (h:n<=UY):HJ n=false:=by
 unfold HJ;exact ud ()
end
section
variable {X:Cx}
inductive rAppend (x:V) (vs:List V) (H:Hp) (Q:VK):Prop
 |mk (l:_) (xs:_) (y:_) (_:x= .ref l) (_:vs= [y]) (_:H l=u_ (.lst xs)) (_:xs.length<UY) (_:Q .non (upd H l (.lst (xs++ [y]))))
theorem Yc:MtM X "list.append" rAppend:=by
 intro oq s σ H x vs v us Q I U rv h;erw[h,l,xs,y,rfl,rfl,O,Z,q];cases U;erw[rv.one,u,rfl,ru];erw[I.lstM O,z,its,n,r,hl,e];refine vx F.slot_list_append [_:e:1] F.entry_list_append (F.args_list_append_2 _ _) (PySem.list_append l its.toArray n u (by rw [um];omega)) [e:?_]
 refine⟨.non,_,I.lset (its':=its++ [u]) O e (by simp) (r.append (.cons ru .nil)) ?_,1,q⟩
 rw [uu,uV];omega
inductive rExtend (x:V) (vs:List V) (H:Hp) (Q:VK):Prop
 |mk (l:_) (b:_) (xs:_) (zs:_) (_:x= .ref l) (_:vs= [.ref b]) (_:H l=u_ (.lst xs)) (_:H b=u_ (.lst zs)) (_:xs.length+zs.length<=UY) (_:Q .non (upd H l (.lst (xs++zs))))
theorem mt_extend:MtM X "list.extend" rExtend:=by
 intro oq s σ H x vs v us Q I rx rv h;erw[h,l,b,xs,zs,rfl,rfl,Z,hB,hz,q];cases rx;erw[rv.one,u,rfl,ru];cases ru;erw[I.lstM Z,z,its,n,r,hl,e];erw[I.lstM hB,z2,O,n2,r2,aa,e2];have hsz:its.toArray.size+O.toArray.size<=sizeLine:=by rw [um,um];omega
 have U:¬(!its.toArray.isEmpty&&HJ (its.toArray.size+O.toArray.size))=true:=by
  rw [notLongL hsz,Hw];exact u9
 refine vx F.slot_list_extend [_:e:1] F.entry_list_extend (F.args_list_extend_2 _ _)
  (Rr l its.toArray n b O.toArray n2 U (by rw [um];omega) ()) [e:e2:?_]
 refine⟨.non,_,I.lset (its':=its++O) Z e (by simp) (r.append r2) ?_,1,q⟩
 rw [uu];omega
inductive rPop (x:V) (vs:List V) (H:Hp) (Q:VK):Prop
 |mk (l:_) (xs:_) (y:_) (_:x= .ref l) (_:vs= []) (_:H l=u_ (.lst xs)) (_:xs[xs.length-1]? =u_ y) (_:Q y (upd H l (.lst xs.dropLast)))
theorem mt_pop:MtM X "list.pop" rPop:=by
 intro oq s σ H x vs v us Q I rx rv h;erw[h,l,xs,y,rfl,rfl,Z,hy,q];cases rx;have O:=rv.zero;subst O;erw[I.lstM Z,z,its,n,r,hl,e];erw[r.get hy,u,hu,ru];have U:its.toArray[its.toArray.size-1]? =u_ u:=by
  show its.toArray[its.length-1]? =u_ u;rwa [<-HP,<-hl]
 refine vx F.slot_list_pop [_:e:1] F.entry_list_pop (F.args_list_pop_1 _) (RE l its.toArray n u U (by rw [um];omega)) [e:?_]
 refine⟨y,_,I.lset (its':=its.dropLast) Z e ?_ r.dropLast ?_,ru,q⟩
 ·show its.toArray.eraseIdxIfInBounds (its.toArray.size-1)=its.dropLast.toArray;rw [um,List.eraseIdxIfInBounds_toArray,erase_last]
 ·rw [List.length_dropLast];omega
inductive rCat (x:V) (y:V) (H:Hp) (Q:VK):Prop
 |mk (l:_) (b:_) (xs:_) (zs:_) (_:x= .ref l) (_:y= .ref b) (_:H l=u_ (.lst xs)) (_:H b=u_ (.lst zs)) (_:xs.length+zs.length<=UY) (_:∀p,H p=UU->Q (.ref p) (upd H p (.lst (xs++zs))))
theorem WO:OpR X (Vo .Add) rCat:=by
 intro oq s σ H x y v u Q I U Z h;erw[h,l,b,xs,zs,rfl,rfl,hH,hB,hz,q];cases U;cases Z;erw[I.lstM hH,z,its,n,r,hl,e];erw[I.lstM hB,z2,O,n2,r2,aa,e2];refine PySem.P.add_list e e2 ?_ (by rw [um,um];omega)
 have ea:its.toArray++O.toArray=(its++O).toArray:=by simp
 rw [ea];exact⟨.ref _,_,I.lnew (t':=s.toks) (r.append r2) (by rw [uu];omega),1,q _ I.fresh⟩
end
section
variable {prog:o9}{w:og}{A:oh}{E:o6->o7->Prop}{s:o7}
set_option maxRecDepth 100000 in
end
section
variable {κ:Type}[DecidableEq κ]
noncomputable def valV (kvs:oj (κ×V))(k:κ):om V:=(kvs.find? λkv=>decide (kv.1=k)).map (·.2)
noncomputable def putK (kvs:oj (κ×V))(k:κ)(v:V):oj (κ×V):=
 if(kvs.any λkv=>decide (kv.1=k))=v_ then kvs.map (λkv=>if kv.1=k then(kv.1,v) else kv) else kvs++ [(k,v)]
noncomputable def Jc (kvs:oj (κ×V))(k:κ):oj (κ×V):=kvs.filter λkv=>decide (kv.1≠k)
theorem kO {k:κ}:valV ([]:oj (κ×V)) k=none:=rfl
theorem QL {p:κ×V}{r:oj (κ×V)}{k:κ}(e:p.1=k):valV (p::r) k=u_ p.2:=by simp [valV,uS,e]
theorem QF {p:κ×V}{r:oj (κ×V)}{k:κ}(e:¬p.1=k):valV (p::r) k=valV r k:=by simp [valV,uS,e]
theorem JR (k:κ):∀kvs:oj (κ×V),(kvs.any λkv=>decide (kv.1=k))=(valV kvs k).isSome
 | []=>rfl
 |p::r=>by
  rw [Ul];by_cases e:p.1=k
  ·simp only [QL e,ub e,Bool.true_or,rL]
  ·rw [QF e,ud e,FN];exact JR k r
theorem valV_map (k j:κ)(y:V):∀kvs:oj (κ×V),valV (kvs.map λkv=>if kv.1=k then(kv.1,y) else kv) j=(valV kvs j).map λx=>if j=k then y else x
 | []=>rfl
 |p::r=>by
  have O:=valV_map k j y r;rw [uq];by_cases h:p.1=k
  ·rw [A3 h];by_cases e:p.1=j
   ·rw [QL (p:=(p.1,y)) e,QL e,GL,A3 (e.symm.trans h)]
   ·rw [QF (p:=(p.1,y)) e,QF e,O]
  ·rw [A2 h];by_cases e:p.1=j
   ·rw [QL (p:=p) e,QL e,GL,A2 (λz=>h (e.trans z))]
   ·rw [QF (p:=p) e,QF e,O]
theorem valV_snoc (k j:κ)(y:V):∀kvs:oj (κ×V),valV kvs k=UU->valV (kvs++ [(k,y)]) j=if j=k then u_ y else valV kvs j
 | [],_=>by
  by_cases e:k=j
  ·rw [A3 e.symm];exact QL (p:=(k,y)) e
  ·rw [A2 (λz=>e z.symm)];exact QF (p:=(k,y)) e
 |p::r,hn=>by
  rw [vQ];have O:¬p.1=k:=λz=>by rw [QL z] at hn;cases hn
  rw [QF O] at hn;have U:=valV_snoc k j y r hn;by_cases e:p.1=j
  ·rw [QL e,QL e,A2 (λz=>O (e.trans z))]
  ·rw [QF e,QF e,U]
theorem Xo (kvs:oj (κ×V))(k j:κ)(y:V):valV (putK kvs k y) j=if j=k then u_ y else valV kvs j:=by
 unfold putK;by_cases a:(kvs.any λkv=>decide (kv.1=k))=v_
 ·rw [A3 a,valV_map];rw [JR] at a;by_cases e:j=k
  ·erw[Option.isSome_iff_exists.mp a,x,O];rw [A3 e,e,O,GL,A3 rfl]
  ·rw [A2 e];cases valV kvs j with
   |none=>rfl
   |some x=>rw [GL,A2 e]
 ·rw [A2 a];refine valV_snoc k j y kvs ?_;rw [JR] at a;cases q:valV kvs k with
  |none=>rfl
  |some x=>rw [q] at a;exact(a rfl).elim
theorem yX (kvs:oj (κ×V))(k:κ)(v:V):(putK kvs k v).length<=kvs.length+1:=by
 unfold putK;split
 ·rw [ua];omega
 ·rw [uu,ui,h_];omega
variable {kvs:oj (κ×V)}
theorem putK_new {k:κ}(v:V)(h:valV kvs k=UU):putK kvs k v=kvs++ [(k,v)]:=by
 unfold putK;rw [JR,h];exact A2 ()
theorem RelO.isSome_eq {o:om V}{u:om o6}(r:RelO o u):o.isSome=u.isSome:=by
 cases o with
 |none=>cases u with
  |none=>rfl
  |some _=>exact(show False from r).elim
 |some _=>cases u with
  |none=>exact(show False from r).elim
  |some _=>rfl
theorem RelO.getD {o:om V}{u:om o6}{d:V}{d':o6}(r:RelO o u)(rd:RelV d d'):RelV (o.getD d) (u.getD d'):=by
 cases o with
 |none=>cases u with
  |none=>exact rd
  |some _=>exact(show False from r).elim
 |some _=>cases u with
  |none=>exact(show False from r).elim
  |some _=>exact r
variable {vs:oj (κ×o6)}
theorem KV.val (r:KV kvs vs)(k:κ):RelO (valV kvs k) (VM vs k):=by
 unfold KV at r
 induction r with
 |nil=>exact Vp
 | @cons p q ps qs h t ih=>
  erw[h,h1,h2];by_cases e:p.1=k
  ·have O:q.1=k:=h1.symm.trans e;have b:VM (q::qs) k=u_ q.2:=by simp [VM,uS,O]
   rwa [QL e,b]
  ·have O:¬q.1=k:=λz=>e (h1.trans z);have b:VM (q::qs) k=VM qs k:=by simp [VM,uS,O]
   rw [QF e,b];exact ih
theorem KV.any (r:KV kvs vs)(k:κ):(kvs.any λkv=>decide (kv.1=k))=vs.any λkv=>decide (kv.1=k):=by
 unfold KV at r
 induction r with
 |nil=>rfl
 |cons h t O=>rw [Ul,Ul,O,h.1]
variable {y:V}{u:o6}
theorem KV.repl (r:KV kvs vs)(k:κ)(O:RelV y u):
  KV (kvs.map λkv=>if kv.1=k then(kv.1,y) else kv) (vs.map λkv=>if kv.1=k then(kv.1,u) else kv):=by
 unfold KV at r⊢
 induction r with
 |nil=>exact .nil
 | @cons p q ps qs h t ih=>
  rw [uq,uq];refine .cons ?_ ih;erw[h,h1,h2];by_cases e:p.1=k
  ·rw [A3 e,A3 (h1.symm.trans e)];exact[h1:O]
  ·rw [A2 e,A2 (λz=>e (h1.trans z))];exact[h1:h2]
theorem KV.put (r:KV kvs vs)(k:κ)(O:RelV y u):KV (putK kvs k y) (VZ vs k u):=by
 unfold putK VZ;rw [r.any k];by_cases e:(vs.any λkv=>decide (kv.1=k))=v_
 ·rw [A3 e,A3 e];exact r.repl k O
 ·rw [A2 e,A2 e];exact Paired.snoc r [1:O]
theorem KV.drop (r:KV kvs vs)(k:κ):KV (Jc kvs k) (without vs k):=by
 unfold KV at r⊢;unfold Jc without
 induction r with
 |nil=>exact .nil
 | @cons p q ps qs h t ih=>
  erw[h,h1,h2];rw [vK,vK];by_cases e:p.1=k
  ·have a:¬decide (p.1≠k)=true:=by simp [e]
   have b:¬decide (q.1≠k)=true:=by simp [h1.symm.trans e]
   rw [A2 a,A2 b];exact ih
  ·have O:¬q.1=k:=λz=>e (h1.trans z);have a:decide (p.1≠k)=true:=by simp [e]
   have b:decide (q.1≠k)=true:=by simp [O]
   rw [A3 a,A3 b];exact .cons [h1:h2] ih
theorem KV.keys (r:KV kvs vs):kvs.map (·.1)=vs.map (·.1):=by
 unfold KV at r
 induction r with
 |nil=>rfl
 |cons h t O=>rw [uq,uq,O,h.1]
theorem KV.length (r:KV kvs vs):kvs.length=vs.length:=Paired.length r
theorem dropK_le (kvs:oj (κ×V))(k:κ):(Jc kvs k).length<=kvs.length:=Uj _ _
end
variable {w:og}{u:o6}
theorem kV_is {P:o9}{k:Key}(r:RelV (kV k) u):(Qo P w).is k u=true:=by
 cases k with
 |inl i=>obtain⟨t,e⟩:=(show∃t,u=VT i t from r);subst e;exact mixKind_int P w i t
 |inr x=>obtain⟨t,e⟩:=(show∃t,u=Vh x t from r);subst e;exact Z7 P w x t
theorem items_are {P:o9}{w:og}:∀{ks:oj Key}{us:oj o6},Vals (ks.map kV) us->ItemsAre (Qo P w) ks us
 | [],_,r=>by rw [vR] at r;cases r;exact .nil
 |k::ks,_,r=>by
  rw [uq] at r;cases r with
  |cons h t=>exact .cons (kV_is h) (items_are t)
noncomputable abbrev KT (H:Hp):oj (oj Key×V)->oj (oj Key×o3×o6)->Prop:=Paired λp q=>p.1=q.1/\H q.2.1=u_ (.tup (p.1.map kV))/\RelV p.2 q.2.2
variable {H:Hp}
theorem KT.val {kvs:oj (oj Key×V)}{xs:oj (oj Key×o3×o6)}(r:KT H kvs xs)(k:oj Key):RelO (valV kvs k) ((VG xs k).map (·.2)):=by
 induction r with
 |nil=>exact Vp
 | @cons p q ps qs h t ih=>
  erw[h,h1,_,h2];by_cases e:p.1=k
  ·have O:q.1=k:=h1.symm.trans e;have b:VG (q::qs) k=u_ q.2:=by simp [VG,uS,O]
   rwa [QL e,b]
  ·have O:¬q.1=k:=λz=>e (h1.trans z);have b:VG (q::qs) k=VG qs k:=by simp [VG,uS,O]
   rw [QF e,b];exact ih
variable {y:V}
theorem KT.repl {kvs:oj (oj Key×V)}{xs:oj (oj Key×o3×o6)}(r:KT H kvs xs)(k:oj Key)(O:RelV y u):
  KT H (kvs.map λkv=>if kv.1=k then(kv.1,y) else kv) (xs.map (putAt k u)):=by
 induction r with
 |nil=>exact .nil
 | @cons p q ps qs h t ih=>
  rw [uq,uq];refine .cons ?_ ih;erw[h,h1,h2,h3];unfold putAt;by_cases e:p.1=k
  ·rw [A3 e,A3 (h1.symm.trans e)];exact[h1:h2:O]
  ·rw [A2 e,A2 (λz=>e (h1.trans z))];exact[h1:h2:h3]
variable {b:o3}
theorem KT.put {kvs:oj (oj Key×V)}{xs:oj (oj Key×o3×o6)}(r:KT H kvs xs)(k:oj Key)(U:H b=u_ (.tup (k.map kV)))(O:RelV y u):
  KT H (putK kvs k y) (storedH xs k b u):=by
 have e:(kvs.any λkv=>decide (kv.1=k))=(VG xs k).isSome:=by
  rw [JR,(r.val k).isSome_eq,HU]
 unfold putK storedH;rw [e];by_cases q:(VG xs k).isSome=v_
 ·rw [A3 q,A3 q];exact r.repl k O
 ·rw [A2 q,A2 q];exact Paired.snoc r [1:U:O]
variable {H':Hp}
theorem KT.keeps {kvs:oj (oj Key×V)}{xs:oj (oj Key×o3×o6)}(r:KT H kvs xs)(O:∀b ys,H b=u_ (.tup ys)->H' b=u_ (.tup ys)):KT H' kvs xs:=
 Paired.mapP r λ_ _ z=>[z.1:O _ _ z.2.1:z.2.2]
section
variable {P:o9}{w:og}{H:Hp}{h:o8}{a:o3}
theorem rd_of {u:HO}(ok:HOk P w H h)(e:Rd H a u):yp P w H h a u:=e.ok ok
theorem Kv {kvs:oj (Key×V)}(ok:HOk P w H h)(e:Rd H a (.dK kvs)):kvs.length<=UY/\(a==Vf)=UV/\∃vs,KV kvs vs/\h.DictOf (Qo P w) a vs:=
 show yp P w H h a (.dK kvs) from rd_of ok e
theorem dk_of {kvs:oj (Key×V)}(ok:HOk P w H h)(e:H a=u_ (.dK kvs)):kvs.length<=UY/\(a==Vf)=UV/\∃vs,KV kvs vs/\h.DictOf (Qo P w) a vs:=Kv ok (.inl e)
theorem WU {ks:oj Key}(ok:HOk P w H h)(e:H a=u_ (.tup (ks.map kV))):(Gg (Qo P w)).is h ks a:=by
 obtain⟨_,its,r,o,h1,h2,n,h3⟩:=(show yp P w H h a (.tup (ks.map kV)) from ok a _ e)
 exact⟨o,its.toArray,n,h1,h2,h3,by simpa using items_are r⟩
theorem dt_rd {kvs:oj (oj Key×V)}(ok:HOk P w H h)(e:Rd H a (.dT kvs)):kvs.length<=UY/\(a==Vf)=UV/\
  ∃xs,KT H kvs xs/\h.DictOfH (Gg (Qo P w)) a xs:=by
 obtain⟨z,y,xs,r,o,es,ep,h1,h2,h3,h4,h5⟩:=(show yp P w H h a (.dT kvs) from rd_of ok e)
 refine⟨z,y,xs,r,o,es,ep,h1,h2,h3,h4,λx O=> ?_,h5⟩;have all:∀{l:oj (oj Key×V)}{m:oj (oj Key×o3×o6)},KT H l m->∀x∈m,(Gg (Qo P w)).is h x.1 x.2.1:=by
  intro l m q
  induction q with
  |nil=>intro x O;exact nomatch O
  | @cons p q ps qs hq t ih=>
   intro x O;rcases A5.mp O with e|O
   ·subst e;exact WU ok (by rw [<-hq.1];exact hq.2.1)
   ·exact ih x O
 exact all r x O
theorem dt_of {kvs:oj (oj Key×V)}(ok:HOk P w H h)(e:H a=u_ (.dT kvs)):kvs.length<=UY/\(a==Vf)=UV/\
  ∃xs,KT H kvs xs/\h.DictOfH (Gg (Qo P w)) a xs:=dt_rd ok (.inl e)
end
noncomputable def DGet (H:Hp)(a:o3)(y:V)(r:om V):Prop:=
 (∃kvs k,Rd H a (.dK kvs)/\y=kV k/\r=valV kvs k)∨∃kvs k b,Rd H a (.dT kvs)/\y= .ref b/\H b=u_ (.tup (k.map kV))/\r=valV kvs k
noncomputable def DPut (H:Hp)(a:o3)(y v:V)(H':Hp):Prop:=
 (∃kvs k,H a=u_ (.dK kvs)/\y=kV k/\kvs.length<UY/\H'=upd H a (.dK (putK kvs k v)))∨
 ∃kvs k b,H a=u_ (.dT kvs)/\y= .ref b/\H b=u_ (.tup (k.map kV))/\kvs.length<UY/\H'=upd H a (.dT (putK kvs k v))
theorem DGet.k {H:Hp}{a:o3}{kvs:oj (Key×V)}{k:Key}(e:H a=u_ (.dK kvs)):DGet H a (kV k) (valV kvs k):= .inl ⟨kvs,k,.inl e,1,1⟩
theorem DPut.k {H:Hp}{a:o3}{kvs:oj (Key×V)}{k:Key}{v:V}(e:H a=u_ (.dK kvs))(O:kvs.length<UY):DPut H a (kV k) v (upd H a (.dK (putK kvs k v))):= .inl ⟨kvs,k,e,1,O,1⟩
section
variable {X:Cx}{oq:oj (o3×Obj)}{σ:St}{H:Hp}{s:o7}{a:o3}{y v:V}{u r:o6}{o:om V}{A:oh}{E:o6->o7->Prop}
theorem Inv.big (I:Inv X oq σ H s):Vf<s.heap.objs.size:=by
 have h:Ve<s.heap.objs.size:=(I.mod.glob.keeps I.bk).lt;exact GQ () h
theorem d_getItem {Q:o6->o7->Prop}(hu:A.units+1<V5)(I:Inv X oq σ H s)(g:DGet H a y (u_ v))(ry:RelV y u)(h:∀U s',Inv X oq σ H s'->RelV v U->Q U s'):
  UW #[X,X] A (Vq (.ref a) u) Q E s:=by
 rcases g with⟨kvs,k,e,Z,l⟩|⟨kvs,k,b,e,Z,eb,l⟩
 ·subst Z;erw[Kv I.hok e,z,hd,vs,rel,dd];obtain⟨U,hw,O⟩:=RelO.some_of (v:=v) (o:=VM vs k) (by rw [l];exact rel.val k)
  exact rD (kV_is ry) dd.mapOf hw (h U _ (I.tok _) O)
 ·subst Z;cases(show u=V1 b from ry)
  erw[dt_rd I.hok e,z,hd,xs,rel,dd];obtain⟨U,hw,O⟩:=RelO.some_of (v:=v) (o:=(VG xs k).map (·.2)) (by rw [l];exact rel.val k)
  erw[Option.map_eq_some_iff.mp hw,p,hp,aa];refine wpAny_getItem_heap (Uc hu) (WU I.hok eb) dd hp ?_;rw [aa];exact h U _ (I.tok _) O
theorem d_in {Q:o6->o7->Prop}(Z:A.units+1<V5)(I:Inv X oq σ H s)(g:DGet H a y o)(U:RelV y u)(h:∀s',Inv X oq σ H s'->Q (.bool o.isSome) s'):
  UW #[X,X] A (V6 .In u (.ref a)) Q E s:=by
 rcases g with⟨kvs,k,e,O,l⟩|⟨kvs,k,b,e,O,eb,l⟩
 ·subst O;erw[Kv I.hok e,z,hd,vs,rel,dd];refine rT (kV_is U) hd dd.mapOf ?_;rw [<-(rel.val k).isSome_eq,<-l];exact h _ (I.tok _)
 ·subst O;cases(show u=V1 b from U)
  erw[dt_rd I.hok e,z,hd,xs,rel,dd];refine wpAny_in_heap (Uc Z) (WU I.hok eb) hd dd ?_;have q:=(rel.val k).isSome_eq;rw [HU] at q;rw [<-q,<-l];exact h _ (I.tok _)
theorem d_notIn {Q:o6->o7->Prop}(Z:A.units+1<V5)(I:Inv X oq σ H s)(g:DGet H a y o)(U:RelV y u)(h:∀s',Inv X oq σ H s'->Q (.bool (!o.isSome)) s'):
  UW #[X,X] A (V6 .NotIn u (.ref a)) Q E s:=by
 rcases g with⟨kvs,k,e,O,l⟩|⟨kvs,k,b,e,O,eb,l⟩
 ·subst O;erw[Kv I.hok e,z,hd,vs,rel,dd];refine T9 (kV_is U) hd dd.mapOf ?_;rw [<-(rel.val k).isSome_eq,<-l];exact h _ (I.tok _)
 ·subst O;cases(show u=V1 b from U)
  erw[dt_rd I.hok e,z,hd,xs,rel,dd];refine wpAny_notIn_heap (Uc Z) (WU I.hok eb) hd dd ?_;have q:=(rel.val k).isSome_eq;rw [HU] at q;rw [<-q,<-l];exact h _ (I.tok _)
variable {h':o8}{t':Nat}
theorem d_write {ob:HO}(I:Inv X oq σ H s)(mu:Mut (H a))(O:Gr a s.heap h')(U:∃q,h'.get? a=u_ q)(new:yp X.prog X.w (upd H a ob) h' a ob)(ht:0<t':=by ac_rfl):
  Inv X oq σ (upd H a ob) {s with heap:=h',toks:=t'}:=
 I.write (x:=a) (e:=a) mu (.inl rfl) (λb q Z z=>(O.2 b Z).trans z) U new
theorem dk_new {P:o9}{kvs:oj (Key×V)}{vs:oj (Key×o6)}(z:kvs.length<=UY)(hd:(a==Vf)=UV)(rel:KV kvs vs)(dd:h'.DictOf (Qo P w) a vs):
  yp P w H' h' a (.dK kvs):=⟨z,hd,vs,rel,dd⟩
theorem d_setItem {Q:Unit->o7->Prop}(hu:A.units+1<V5)(I:Inv X oq σ H s)(g:DPut H a y v H')(ry:RelV y u)(rv:RelV v r)(h:∀s',Inv X oq σ H' s'->Q gV s'):
  UW #[X,X] A (HQ (.ref a) u r) Q E s:=by
 rcases g with⟨kvs,k,e,Z,l,eH⟩|⟨kvs,k,b,e,Z,eb,l,eH⟩
 ·subst Z eH;erw[dk_of I.hok e,z,hd,vs,rel,dd];have hz:vs.length<=sizeLine:=by rwa [<-rel.length]
  have hl:(putK kvs k v).length<=sizeLine:=by have:=yX kvs k v;omega
  refine wpAny_setItem_pairs (hsz:=hz) (kV_is ry) dd λh' O hs=>h _ ?_;have he:∃q,h'.get? a=u_ q:=let⟨q,_,_,U,_⟩:=O;[q:U];exact d_write I (by rw [e];exact Vp) hs he (dk_new hl hd (rel.put k rv) O)
 ·subst Z eH;cases(show u=V1 b from ry)
  erw[dt_of I.hok e,z,hd,xs,rel,dd];have hz:xs.length<=sizeLine:=by rwa [<-Paired.length rel]
  have hl:(putK kvs k v).length<=sizeLine:=by have:=yX kvs k v;omega
  refine wpAny_setItem_heap (hsz:=hz) (Uc hu) (WU I.hok eb) dd λh' O hs=>h _ ?_;erw[O,q,es,ep,U,h2,h3,h4,_,h5];refine d_write I (by rw [e];exact Vp) hs [q:U] ⟨hl,hd,_,(rel.put k eb rv).keeps λc ys ec=> ?_,q,es,ep,U,h2,h3,h4,h5⟩
  rw [qk (ne_of ec e (λz=>nomatch z))];exact ec
end
section
variable {X:Cx}{oq:oj (o3×Obj)}{σ:St}{H:Hp}{s:o7}{a:o3}{kvs:oj (Key×V)}{k:Key}{u:o6}{A:oh}{E:o6->o7->Prop}
theorem d_pop {v:V}{more:oj o6}{Q:o6->o7->Prop}(I:Inv X oq σ H s)(e:H a=u_ (.dK kvs))(Z:RelV (kV k) u)(l:valV kvs k=u_ v)(hm:more= []∨∃x,more= [x])
  (h:∀O s',Inv X oq σ (upd H a (.dK (Jc kvs k))) s'->RelV v O->Q O s'):UW #[X,X] A (call (.builtin "dict.pop") (.ref a::u::more)) Q E s:=by
 erw[dk_of I.hok e,z,hd,vs,rel,dd];obtain⟨O,hw,aa⟩:=RelO.some_of (v:=v) (o:=VM vs k) (by rw [<-l];exact rel.val k)
 have hp:(keyPart u).isSome=true:=by
  cases k with
  |inl i=>obtain⟨t,q⟩:=(show∃t,u=VT i t from Z);subst q;rfl
  |inr x=>obtain⟨t,q⟩:=(show∃t,u=Vh x t from Z);subst q;rfl
 have ha:argsOk "dict.pop" ⟨.ref a::u::more,[]⟩:=by
  rcases hm with q|⟨x,q⟩
  ·subst q;exact PySem.F.args_dict_pop_2 _ _
  ·subst q;exact PySem.F.args_dict_pop_3 _ _ _
 refine tj PySem.F.slot_dict_pop dd.typeIs PySem.F.entry_dict_pop ha (meets_dict_pop_there (Qo X.prog X.w) a (kV_is Z) more hm hp)
  ⟨vs,O,dd,by rwa [<-rel.length],hw,λh' U hs=>h O _ ?_ aa⟩
 have he:∃q,h'.get? a=u_ q:=let⟨q,_,_,hq,_⟩:=U;[q:hq];exact d_write I (by rw [e];exact Vp) hs he (dk_new (uO (dropK_le kvs k) z) hd (rel.drop k) U)
theorem d_len {Q:o6->o7->Prop}(I:Inv X oq σ H s)(e:Rd H a (.dK kvs))(h:∀t s',Inv X oq σ H s'->Q (.int kvs.length t) s'):UW #[X,X] A (call (.builtin "len") [.ref a]) Q E s:=by
 erw[Kv I.hok e,z,hd,vs,rel,dd];refine call_len_dict hd dd (by rw [<-rel.length];rw [uA] at z;omega) ?_
 rw [<-rel.length];exact h _ _ (I.tok _)
end
noncomputable def NoSl (i:Expr):Prop:=∀ov iv,Gx i UV ov iv=GK [ov,iv] (Vq ov iv)
theorem subD_of {prog:o9}{w:og}{A:oh}{E:o6->o7->Prop}{s:o7}{env:Env}{value slice:Expr}{pos:Pos}{T id:String}{Q:o6->o7->Prop}
  (hl:Hc (.type T) "__getitem__"=pure (u_ (.builtin id))) (hs:NoSl slice)
  (h:UW #[w,w] A (eval value env) (λo Z=>UW #[w,w] A (eval slice env) (λi O=>O.TypeIs o T/\UW #[w,w] A (Vq o i) Q E O) E Z) E s):
  UW #[w,w] A (eval (.Subscript value slice pos) env) Q E s:=by
 refine Hb (vG h (λo Z h₁=>vG h₁ (λi O U=> ?_) λ_ _ x=>x) λ_ _ x=>x);erw[U,hT,U];unfold GS;refine A4 ?_;rw [getitemInPython_of_ne hT.not_modules];refine A4 (wpAny_specialOf hT hl ?_);have fin:UW #[w,w] A (Gx slice UV o i) (λr s₃=>UW #[w,w] A (letTemporaryGo value o r>>=λ_=>pure r) Q E s₃) E O:=by
  rw [hs o i];exact wpAny_operating (vG U (λr s₃ h₃=>A4 (wpAny_letTemporaryGo (uz h₃))) λ_ _ x=>x)
 first
  |exact uz (A4 fin)
  |exact A4 (uz (A4 fin))
  |exact A4 fin
variable {X:Cx}{oq:oj (o3×Obj)}{σ:St}{s:o7}{a:o3}
theorem dict_typeIs {o:om V}(I:Inv X oq σ H s)(g:DGet H a y o):s.TypeIs (.ref a) "dict":=by
 rcases g with⟨kvs,k,e,_,_⟩|⟨kvs,k,b,e,_,_,_⟩
 ·erw[Kv I.hok e,_,_,vs,_,dd];exact dd.typeIs
 ·erw[dt_rd I.hok e,_,_,xs,_,dd];exact dd.typeIs
inductive ItDGet (Q:VK) (x:V) (y:V) (H2:Hp):Prop
 |mk (a:_) (v:_) (_:x= .ref a) (_:DGet H2 a y (u_ v)) (_:Q v H2)
noncomputable def tDGet (td ty:TE):TE:=λσ H Q=>td σ H λx H1=>ty σ H1 λy H2=>ItDGet Q x y H2
inductive ItDIn (Q:VK) (y:V) (x:V) (H2:Hp):Prop
 |mk (a:_) (o:_) (_:x= .ref a) (_:DGet H2 a y o) (_:Q (.bl o.isSome) H2)
noncomputable def tDIn (ty td:TE):TE:=λσ H Q=>ty σ H λy H1=>td σ H1 λx H2=>ItDIn Q y x H2
inductive ItDNotIn (Q:VK) (y:V) (x:V) (H2:Hp):Prop
 |mk (a:_) (o:_) (_:x= .ref a) (_:DGet H2 a y o) (_:Q (.bl (!o.isSome)) H2)
noncomputable def tDNotIn (ty td:TE):TE:=λσ H Q=>ty σ H λy H1=>td σ H1 λx H2=>ItDNotIn Q y x H2
inductive IsDPut (D:Ends) (σ:St) (v:V) (x:V) (y:V) (H3:Hp):Prop
 |mk (a:_) (H4:_) (_:x= .ref a) (_:DPut H3 a y v H4) (_:D.nx σ H4)
noncomputable def sDPut (td ty tv:TE):TS:=λD σ H=>tv σ H λv H1=>td σ H1 λx H2=>ty σ H2 λy H3=>IsDPut D σ v x y H3
section
variable {X:Cx}{o i e value:Expr}{pos pos' tpos:Pos}{td ty tv:TE}
theorem QJ (Z:X.A.units+1<V5)(ho:PE X o td)(hi:PE X i ty)(hs:NoSl i):PE X (.Subscript o i pos) (tDGet td ty):=by
 intro oq s σ H Q I h;refine subD_of PySem.F.slot_dict_getitem.lookup hs (thn (ho oq s σ H _ I h) λu s1 ⟨x,H1,I1,rx,q1⟩=>thn (hi oq s1 σ H1 _ I1 q1) λiv s2 zq=> ?_);erw[zq,y,H2,U,ry,a,v,ex,g,q2];subst ex;obtain rfl:u=V1 a:=rx;exact[dict_typeIs U g:d_getItem Z U g ry λw' s3 I3 O=>⟨v,H2,I3,O,q2⟩]
theorem pc_din (O:X.A.units+1<V5)(hi:PE X i ty)(U:PE X o td):PC X .In i o (tDIn ty td):=by
 intro oq s σ H Q I h;refine thn (hi oq s σ H _ I h) λiv s1 ⟨y,H1,Z,ry,q1⟩=>thn (U oq s1 σ H1 _ Z q1) λu s2 zq=> ?_;erw[zq,x,H2,I2,rx,a,ov,ex,g,q2];subst ex;obtain rfl:u=V1 a:=rx;exact d_in O I2 g ry λs3 I3=>⟨.bl ov.isSome,H2,I3,1,q2⟩
theorem pc_dnotin (O:X.A.units+1<V5)(hi:PE X i ty)(U:PE X o td):PC X .NotIn i o (tDNotIn ty td):=by
 intro oq s σ H Q I h;refine thn (hi oq s σ H _ I h) λiv s1 ⟨y,H1,Z,ry,q1⟩=>thn (U oq s1 σ H1 _ Z q1) λu s2 zq=> ?_;erw[zq,x,H2,I2,rx,a,ov,ex,g,q2];subst ex;obtain rfl:u=V1 a:=rx;exact d_notIn O I2 g ry λs3 I3=>⟨.bl (!ov.isSome),H2,I3,1,q2⟩
theorem xz (O:X.A.units+1<V5)(U:PE X o td)(hi:PE X i ty)(Z:PE X value tv)(hs:Gy value (u_ (.Subscript o i pos')) pos.line X.env=pure UV):
  PS X (.Assign [.Subscript o i pos'] value pos) (sDPut td ty tv):=by
 intro oq s σ H D I h;refine wpAny_Assign_Subscript (thn (Z oq s σ H _ I h) λr s1 ⟨v,H1,I1,rv,q1⟩=>thn (U oq s1 σ H1 _ I1 q1) λu s2 ⟨x,H2,I2,rx,q2⟩=>thn (hi oq s2 σ H2 _ I2 q2) λiv s3 zq=> ?_) hs;erw[zq,y,H3,I3,ry,a,H4,ex,g,q3];subst ex;obtain rfl:u=V1 a:=rx;exact d_setItem O I3 g ry rv λs4 I4=>⟨σ,H4,I4,q3⟩
end
theorem dk_empty {P:o9}(h:o8)(O:Vf<h.objs.size):yp P w H (h.push {cls:= .type "dict",data:= .dict #[]}) h.objs.size (.dK []):=
 ⟨uU _,beq_eq_false_iff_ne.mpr (Up (uN O)),[],.nil,FG h⟩
noncomputable def tDNewK:TE:=λ_ H Q=>∀p,H p=UU->Q (.ref p) (upd H p (.dK []))
section
variable {X:Cx}{pos:Pos}
theorem Zu:PE X (.Dict [] [] pos) tDNewK:=λoq s σ H Q I h=>
 wpAny_Dict_empty ⟨.ref s.heap.objs.size,_,I.laid (a:=s.heap.objs.size) (o:= .dK []) (t':=s.toks) (λ_ _ q=>ue _ q) (uh _) (dk_empty s.heap I.big),1,h _ (I.hok.fresh (uh _))⟩
end
structure M1 (X:Cx)(o:Expr)(m:Str)(apos:Pos)(e:Expr)(cpos:Pos):Prop where
 base:Gf o m X.env (eval o X.env)=eval o X.env
 few:((V8 cpos (U_ [e] X.env)).all (λx=> !x.1)&&(G9 cpos (gZ [] X.env)).all (λx=>x.1.isSome)
  &&decide (([e]:oj Expr).length+([]:oj Gh).length+(if([]:oj Gh).isEmpty then 0 else 1)<30))=v_
 line:(apos.endLine==cpos.line)=v_
 trees:V8 cpos (U_ [e] X.env)= [(UV,eval e X.env)]
noncomputable def IsD (H:Hp)(a:o3):Prop:=(∃kvs,Rd H a (.dK kvs))∨∃kvs,Rd H a (.dT kvs)
theorem isD_at (I:Inv X oq σ H s)(d:IsD H a):
  s.TypeIs (.ref a) "dict"/\(∀b,V1 a= .ref b->∃ob,s.heap.get? b=u_ ob/\ob.dict=UU)/\(a==Vf)=false:=by
 rcases d with⟨kvs,e⟩|⟨kvs,e⟩
 ·erw[Kv I.hok e,_,hd,vs,_,dd];refine[dd.typeIs:λb q=> ?_:hd];cases q;erw[dd,ob,_,_,h1,h2,_];exact[ob:h1:h2.2.1]
 ·erw[dt_rd I.hok e,_,hd,xs,_,dd];refine[dd.typeIs:λb q=> ?_:hd];cases q;erw[dd,ob,_,_,h1,h2,_];exact[ob:h1:h2.2.1]
section
variable {X:Cx}{oq:oj (o3×Obj)}{σ:St}{H:Hp}{s:o7}{a:o3}{y d:V}{u r:o6}{o:om V}{A:oh}{E:o6->o7->Prop}
theorem d_get1 {Q:o6->o7->Prop}(hu:A.units+1<V5)(I:Inv X oq σ H s)(g:DGet H a y o)(U:RelV y u)(h:∀Z s',Inv X oq σ H s'->RelV (o.getD .non) Z->Q Z s'):
  UW #[X,X] A (call (.builtin "dict.get") [.ref a,u]) Q E s:=by
 rcases g with⟨kvs,k,e,O,l⟩|⟨kvs,k,b,e,O,eb,l⟩
 ·subst O;erw[Kv I.hok e,z,hd,vs,rel,dd];refine tj PySem.F.slot_dict_get dd.typeIs PySem.F.entry_dict_get (PySem.F.args_dict_get_2 _ _) (meets_dict_get (Qo X.prog X.w) a (kV_is U) hd) [_:dd.mapOf:h _ _ (I.tok _) ?_];rw [l];exact(rel.val k).getD rfl
 ·subst O;cases(show u=V1 b from U)
  erw[dt_rd I.hok e,z,hd,xs,rel,dd];refine tj PySem.F.slot_dict_get dd.typeIs PySem.F.entry_dict_get (PySem.F.args_dict_get_2 _ _) (meetsH_dict_get (Gg (Qo X.prog X.w)) a b hd) ⟨Uc hu,k,xs,WU I.hok eb,dd,h _ _ (I.tok _) ?_⟩;rw [l];exact(rel.val k).getD rfl
end
inductive ItDGet1 (ty:TE) (σ:St) (Q:VK) (x:V) (H1:Hp):Prop
 |mk (a:_) (_:x= .ref a) (_:IsD H1 a) (_:ty σ H1 λy H2=>∃o,DGet H2 a y o/\Q (o.getD .non) H2)
noncomputable def tDGet1 (td ty:TE):TE:=λσ H Q=>td σ H λx H1=>ItDGet1 ty σ Q x H1
inductive ItDPop1 (ty:TE) (σ:St) (Q:VK) (x:V) (H1:Hp):Prop
 |mk (a:_) (_:x= .ref a) (_:IsD H1 a) (_:ty σ H1 λy H2=>∃kvs k v,H2 a=u_ (.dK kvs)/\y=kV k/\valV kvs k=u_ v/\Q v (upd H2 a (.dK (Jc kvs k))))
noncomputable def tDPop1 (td ty:TE):TE:=λσ H Q=>td σ H λx H1=>ItDPop1 ty σ Q x H1
section
variable {X:Cx}{o e f:Expr}{apos cpos:Pos}{td ty tx:TE}
theorem pe_dget1 (Z:X.A.units+1<V5)(ho:PE X o td)(he:PE X e ty)(m:M1 X o "get" apos e cpos):PE X (.Call (.Attribute o "get" apos) [e] [] cpos) (tDGet1 td ty):=by
 intro oq s σ H Q I h;refine Fm m.base m.few m.line PySem.F.plainAttrs_dict PySem.F.slot_dict_get PySem.F.type_dict_get (thn (ho oq s σ H _ I h) λu s1 zq=> ?_);erw[zq,x,H1,U,rx,a,ex,d,q1];subst ex;obtain rfl:u=V1 a:=rx;erw[isD_at U d,t1,t2,_];exists t1,t2;rw [m.trees];refine U8 rfl (Uq (tO (thn (he oq s1 σ H1 _ U q1) λiv s2 ⟨y,H2,I2,ry,ov,g,q2⟩=>tH ?_)));exact d_get1 Z I2 g ry λw' s3 I3 O=>⟨_,H2,I3,O,q2⟩
theorem pe_dpop1 (Z:PE X o td)(he:PE X e ty)(m:M1 X o "pop" apos e cpos):PE X (.Call (.Attribute o "pop" apos) [e] [] cpos) (tDPop1 td ty):=by
 intro oq s σ H Q I h;refine Fm m.base m.few m.line PySem.F.plainAttrs_dict PySem.F.slot_dict_pop PySem.F.type_dict_pop (thn (Z oq s σ H _ I h) λu s1 zq=> ?_);erw[zq,x,H1,U,rx,a,ex,d,q1];subst ex;obtain rfl:u=V1 a:=rx;erw[isD_at U d,t1,t2,_];exists t1,t2;rw [m.trees];refine U8 rfl (Uq (tO (thn (he oq s1 σ H1 _ U q1) λiv s2 ⟨y,H2,I2,ry,kvs,k,v,ea,ey,l,q2⟩=>tH ?_)));subst ey;exact d_pop I2 ea ry l (.inl rfl) λw' s3 I3 O=>⟨v,_,I3,O,q2⟩
end
end L2
namespace Att
open PySem PySem.W PySem.Calls PyProof.Rows
variable {h:o8}
theorem ZP {P:GW}:∀(ns:oj Int) (vs:oj o6),WellAll P h vs (ns.map WData.int)->gN vs ns:=by
 intro ns
 induction ns with
 |nil=>
  intro vs w;rw [vR] at w;cases w;exact .nil
 |cons n ns O=>
  intro vs w;rw [uq] at w;cases w with
  |cons a b=>
   cases a;exact .cons _ _ (O _ b)
theorem script_of {l:OpenLaw}{n:Nat}(hn:l.most=u_ n){P:GW}{h:o8}{args:oj WData}{O:oj o6}
  (U:l.row.toRowW.claim.pre args=v_) (ac:WellAll P h O args):
  ∃a vs ns,O= [V1 a]/\args= [WData.list (ns.map WData.int)]/\h.get? a=u_ {cls:= .type "list",data:= .seq vs.toArray}/\gN vs ns/\ns.length<=n:=by
 have ad:WShape.hasAll [] args [.list .int]=true:=(pre_splitW U).1;have hc:l.pre.holds [] {args:=args}=true:=(pre_splitW U).2;erw[hasAllW_cons ad,d,r,rfl,h1,h2];obtain rfl:=hasAllW_nil h2;erw[hasW_list h1,xs,rfl,h3];erw[items_int h3,ns,rfl];have Z:ns.length<=n:=by
  unfold OpenLaw.pre at hc;have h4:(WTm.not (.lt (.lit (.int (n:Int))) (.len (.arg 0)))).holds [] {args:= [.list (ns.map .int)]}=true:=by
   have h4:=(holds_andW hc).1;rwa [hn] at h4
  have h5:=condW_of h4 (w_not (w_lt w_lit (w_len_list (w_arg rfl))));rw [ua] at h5;refine Nat.le_of_not_lt λq=> ?_;have q':(n:Int)<((ns.length:Nat):Int):=by omega
  first
   |(rw [ub q'] at h5;exact absurd h5 ())
   |(simp at h5;omega)
 cases ac with
 |cons w1 w2=>
  cases w2;cases w1 with
  |list ho aa=>exact⟨_,_,ns,1,1,ho,ZP ns _ aa,Z⟩
theorem post_true (l:OpenLaw)(args:oj WData):l.row.toRowW.claim.post args (.bool v_) args=true:=
 postW_of (r:=l.row.toRowW) (X:=(v_==v_))
  (show WShape.has [] (.bool v_) .bool=v_ by first|rfl|decide|simp [WShape.has,WShape.arms,WShape.armsAll])
  (show(WTm.eq .res (.lit (.bool v_))).value [] {args:=args,res:=u_ (.bool v_),after:=args}=u_ (.bool (v_==v_)) from w_eq_bool (w_res rfl) w_lit) rfl
theorem attach_call {l:OpenLaw}{n:Nat}{q:o9}{O:oj Str}{XP:(Str->om o6)->o8->Prop}{YP:og->o8->Prop}{d:DefRec}
  (hn:l.most=u_ n) (ad:d.params.defaults= [])
  (call:∀(w:og) (s₀ U:o7) (mg mb:Str->om o6) (fa:o3) (o:Obj) (pm cd doc:o6) (a:o3) (vs:oj o6) (ns:oj Int),
   Ground q O [] XP w s₀ mg mb U.heap->YP w U.heap->
   U.heap.get? fa=u_ o->o.data= .func (docDef d.name d.params d.body d.scope pm cd doc)->U.heap.CodeRec cd d.name->mg d.name=u_ (.ref fa)->
   U.heap.get? a=u_ {cls:= .type "list",data:= .seq vs.toArray}->gN vs ns->ns.length<=n->U.gens= #[]->
   Vn (Va l.prog w) VN (.call (.ref fa) [[.ref a]:[]]) (λr s'=>r= .ok (.ret (.bool v_))/\OldK U.heap s'.heap/\s'.os=U.os/\Vv s'.gens) U):
  WalkO q O XP YP l.row.toRowW d [] (λf vs=>PySem.call f vs):=by
 intro w s₀ U mg mb G Y fa o pm cd doc dV kV ho hd ae hD af hg args ag as hpre hlay hrd hwl hlo;obtain rfl:dV= .none:=Dflts.none hD ad;obtain rfl:kV= .none:=Dflts.noKw hD;erw[script_of hn hpre hwl,a,vs,ns,rfl,rfl,aa,Z,ac];refine enter_call (GG (call w s₀ U mg mb fa o pm cd doc a vs ns G Y ho (fd_plain hd) ae af aa Z ac hg) λr s' hq=> ?_);erw[hq,rfl,h2,h3,h4];exact⟨.inl ⟨.bool v_,.bool v_,[],1,λ_=>rfl,.bool v_,post_true l _,λ_=>[tX:λ_ hm=>(nomatch hm)]⟩,h2,h3,h4⟩
end Att
namespace L2
open PySem PySem.Spec PyProof.Rows
theorem vals_ints:∀{vs:oj o6}{ns:oj Int},gN vs ns->Vals (ns.map V.int) vs
 |_,_,.nil=> .nil
 |_,_,.cons n t h=> .cons [t:1] (vals_ints h)
noncomputable def Only (H:Hp):Prop:=∀b,H b=UU∨∃o xs,H b=u_ (.frz o (.lst xs))
theorem law_call {P:o9}{w:og}{K:o0}{mg mb:Str->om o6}{CX:CXT}{k:Nat}{fa a:o3}{fd:UX}{x:Str}{sp:Sp}{O:o7}{vs:oj o6}{ns:oj Int}
  (KX:K.In O.heap) (ae:O.heap.Ns Ve mg) (Z:O.heap.Ns Hl mb) (am:∀x:Str,x≠"__name__"->mb x=gO x) (af:O.heap.NoLimit) (hg:O.gens= #[])
  (ha:O.heap.get? a=u_ {cls:= .type "list",data:= .seq vs.toArray}) (hi:gN vs ns) (hl:ns.length<=UY) (hr:Room k VN)
  (F:∀base:o8,K.In base->base.Ns Ve mg->FnOk P w K mg base CX k fa fd [x] sp) (ad:∀(s:o7) (u:o6),gS s fd [[u]:[]] [(x,u)])
  (ag:fd.scope.names.lookup x=u_ .local) (ao:∀H:Hp,Only H->SqL K H a (ns.map V.int)->sp [.ref a] H (λv _=>v= .bl v_) λ_ _ _=>False)
  (ap:∀H e s',CX [] H O (λ_ _ _=>False) e s'->False):
  Vn (Va P w) VN (.call (.ref fa) [[.ref a]:[]]) (λr s'=>r= .ok (.ret (.bool v_))/\OldK O.heap s'.heap/\s'.os=O.os/\Vv s'.gens) O:=by
 have rv:=vals_ints hi;have ah:=hi.length;have ac:∀H:Hp,Only H->SqL K H a (ns.map V.int)->HOk P w H O.heap->(∀b,H b≠UU->b=a)->(H a≠UU->K.lookup a=UU)->
   Vn (Va P w) VN (.call (.ref fa) [[.ref a]:[]]) (λr s'=>r= .ok (.ret (.bool v_))/\OldK O.heap s'.heap/\s'.os=O.os/\Vv s'.gens) O:=by
  intro H hO hS hok hA hK;have U:∀{b:o3}{o:Obj},O.heap.get? b=u_ o->H b=UU->(hidT O.heap H).get? b=u_ o:=λe n=>hidT_get e n;have aq:∀{b:o3}{o:Obj}{es:Array gP}{ep:Nat},O.heap.get? b=u_ o->o.data= .dict es ep->H b=none:=λ{b o es ep} e d=>by
   cases q:H b with
   |none=>rfl
   |some u=>
    have e':b=a:=hA b (by rw [q];simp)
    subst e';rw [ha] at e;cases e;have d':Data.seq vs.toArray _=Data.dict es ep:=d;cases d'
  have aa:∀{b:o3}{m:Str->om o6},O.heap.Ns b m->(hidT O.heap H).Ns b m:=λ{b m} ⟨o,es,ep,e,d,r⟩=>⟨o,es,ep,U e (aq e d),d,r⟩;have ak:K.In (hidT O.heap H):=λb o e=>U (KX b o e) (by
   cases q:H b with
   |none=>rfl
   |some u=>
    have e':b=a:=hA b (by rw [q];simp)
    subst e';rw [hK (by rw [q];simp)] at e;cases e)
  have hM:Mod K mg (hidT O.heap H):=⟨ak,aa ae,[mb:aa Z:am],let⟨mc,h1,h2⟩:=af;[mc:aa h1:h2]⟩;have e0:Env0 P w K mg (hidT O.heap H) VN [] O H:=⟨1,hM,λb o e=>of_hidT e,rq (hidT_size _ _),trivial,λb Z=>absurd (show b∈([]:oj o3) from Z) (by simp),hok,.of_eq hg⟩
  refine GG ((F _ ak (aa ae)).run VN [] O H [[.ref a]:[]] [.ref a] [.ref a] _ _ hr e0 (ad O (.ref a)) (.cons rfl .nil) (ao H hO hS) (.inr [_:0:ag])) λr s' h=> ?_;cases r with
  |error e=>exact(ap H e s' h).elim
  |ok fl=>
   cases fl with
   |next=>exact Vm h
   |brk=>exact Vm h
   |cont=>exact Vm h
   |ret u=>
    erw[h,v,H',os,bare,htk,un,al,r',q];have q':v= .bl true:=q;subst q';obtain rfl:u=Hd true:=r';refine⟨1,OldK.of_keep λb o e=> ?_,os,bare⟩;cases q:H b with
    |none=>exact un.keep b o e q (by intro z;exact absurd (show b∈([]:oj o3) from z) (by simp)) (by simp)
    |some u=>
     rcases hO b with z|⟨ob,xs,z⟩
     ·rw [q] at z;cases z
     ·have z2:=un.frzs b ob _ z;erw[hok b _ z,e1,_];erw[al b _ z2,e2,_];rw [e] at e1;cases e1;exact e2
 cases hk:K.lookup a with
 |some o=>
  have e:=KX a o hk;rw [ha] at e;cases e;refine ac (λ_=>UU) (λ_=> .inl rfl) (.inr ⟨_,vs.toArray,_,hk,1,1,1,by rwa [um,ah],by simpa using rv⟩) (λb u z=>by have z':(UU:om HO)=u_ u:=z;cases z') (λb z=>absurd rfl z) λz=>absurd rfl z
 |none=>
  refine ac (λb=>if b=a then u_ (.frz {cls:= .type "list",data:= .seq vs.toArray} (.lst (ns.map V.int))) else UU) (λb=> ?_) (.inl (.inr [{cls:= .type "list",data:= .seq vs.toArray}:A3 rfl])) (λb u z=> ?_) (λb z=> ?_) λ_=>hk
  ·by_cases Z:b=a
   ·exact .inr [_:_:A3 Z]
   ·exact .inl (A2 Z)
  ·by_cases Z:b=a
   ·have z':=(A3 Z).symm.trans z;cases z';subst Z;exact⟨ha,by rwa [ua],vs,_,rv,ha⟩
   ·have z':=(A2 Z).symm.trans z;cases z'
  ·by_cases Z:b=a
   ·exact Z
   ·exact absurd (A2 Z) z
noncomputable abbrev KOf {K:o0}{h:o8}(_:K.In h):o0:=K
theorem walk_of {l:PySem.W.OpenLaw}{n k:Nat}{q:o9}{U:oj Str}{XP:(Str->om o6)->o8->Prop}{YP:og->o8->Prop}{d:DefRec}{K:GW->o0}{CX:og->CXT}{sp:og->Sp}{x:Str}
  (hn:l.most=u_ n) (ad:n<=UY) (ae:d.params.defaults= []) (hr:Room k VN)
  (hY:∀(w:og) (h:o8),YP w h->(K w.params).In h)
  (F:∀(w:og) (mg:Str->om o6) (fa:o3) (h:o8),(K w.params).In h->h.Ns Ve mg->mg d.name=u_ (.ref fa)->
   ∃fd:UX,(∀(s:o7) (u:o6),gS s fd [[u]:[]] [(x,u)])/\fd.scope.names.lookup x=u_ .local/\
    ∀base:o8,(K w.params).In base->base.Ns Ve mg->FnOk l.prog w (K w.params) mg base (CX w) k fa fd [x] (sp w))
  (af:∀(w:og) (H:Hp) (a:o3) (ns:oj Int),ns.length<=n->Only H->SqL (K w.params) H a (ns.map V.int)->sp w [.ref a] H (λv _=>v= .bl v_) λ_ _ _=>False)
  (ag:∀(w:og) (H:Hp) (s:o7) (e:o6) (s':o7),CX w [] H s (λ_ _ _=>False) e s'->False):
  PySem.W.WalkO q U XP YP l.row.toRowW d [] (λf vs=>PySem.call f vs):=by
 refine Att.attach_call hn ae λw s₀ s₁ mg mb fa o pm cd doc a vs ns G Y ho hd ak ah aa Z O hg=> ?_;have KX:=hY w _ Y;erw[F w mg fa _ KX G.T.g ah,fd,hb,ac,hF];exact law_call KX G.T.g G.T.b G.T.builtins G.T.nolimit hg aa Z (uO O ad) hr hF hb ac (λH hO hS=>af w H a ns O hO hS) λH e s'=>ag w H s₁ e s'
theorem walk_ofK {l:PySem.W.OpenLaw}{n k:Nat}{q:o9}{O:oj Str}{XP:(Str->om o6)->o8->Prop}{YP:og->o8->Prop}{d:DefRec}{K:GW->o0}{CX:CXT}{sp:o0->Sp}{x:Str}
  (hn:l.most=u_ n) (U:n<=UY) (Z:d.params.defaults= []) (hr:Room k VN)
  (hY:∀(w:og) (h:o8),YP w h->(K w.params).In h)
  (F:∀(w:og) (mg:Str->om o6) (fa:o3) (h:o8),(K w.params).In h->h.Ns Ve mg->mg d.name=u_ (.ref fa)->
   ∃fd:UX,(∀(s:o7) (u:o6),gS s fd [[u]:[]] [(x,u)])/\fd.scope.names.lookup x=u_ .local/\
    ∀base:o8,(K w.params).In base->base.Ns Ve mg->FnOk l.prog w (K w.params) mg base CX k fa fd [x] (sp (K w.params)))
  (aa:∀(K:o0) (H:Hp) (a:o3) (ns:oj Int),ns.length<=n->Only H->SqL K H a (ns.map V.int)->sp K [.ref a] H (λv _=>v= .bl v_) λ_ _ _=>False)
  (ac:∀(H:Hp) (s:o7) (e:o6) (s':o7),CX [] H s (λ_ _ _=>False) e s'->False):
  PySem.W.WalkO q O XP YP l.row.toRowW d [] (λf vs=>PySem.call f vs):=
 walk_of (K:=K) (CX:=λ_=>CX) (sp:=λw=>sp (K w.params)) hn U Z hr hY F (λw H a ns h1 h2 h3=>aa (K w.params) H a ns h1 h2 h3) λ_ H s e s'=>ac H s e s'
noncomputable def Qg (s:Stmt)(j:Nat):Stmt:=match s with
 | .ClassDef _ _ _ body _ _ _ _ _ _ _=>body.getD j (.Pass ⟨(0),(0),(0),(0)⟩)
 |_=> .Pass ⟨(0),(0),(0),(0)⟩
noncomputable def YD (s:Stmt):Arguments:=match s with
 | .FunctionDef _ a _ _ _ _ _ _ _ _=>a
 |_=>{posonlyargs:= [],args:= [],vararg:=UU,kwonlyargs:= [],kw_defaults:= [],kwarg:=UU,defaults:= []}
noncomputable def yU (s:Stmt):oj Stmt:=match s with
 | .FunctionDef _ _ b _ _ _ _ _ _ _=>b
 |_=> []
noncomputable def qj (s:Stmt):Scope:=match s with
 | .FunctionDef _ _ _ _ _ _ sc _ _ _=>sc
 |_=>{kind:= .function,names:= [],isGenerator:=UV,isCoroutine:=UV}
noncomputable abbrev CX0:CXT:=λ_ _ _ _ _ _=>False
noncomputable abbrev E0:XK:=λ_ _ _=>False
variable {X:Cx}
theorem qB:Xu CX0 X E0:=λ_ _ _ _ _ _ _ h=>h.elim
structure Fun (K:o0)(x qual:Str)(st:Stmt)(f:o3)(fd:UX):Prop where
 ex:∃(oc:o6) (od:om o3) (kV doc pm:o6) (an:om o3) (cdv ct:o6) (osl:Array (om o6)),
  fd=PySem.W.fnOf x qual (YD st) (yU st) (qj st) .none kV doc pm an cdv ct/\K.lookup f=u_ ⟨oc,od,.func fd,osl⟩/\PySem.W.codeIn K cdv qual=v_
 kp:PySem.W.keepIn K (.ref f)=v_
section
variable {P:o9}{w:og}{K:o0}{mg:Str->om o6}{base:o8}
theorem Fun.ok {x qual:Str}{st:Stmt}{f:o3}{fd:UX}{N ps:oj Str}{k:Nat}{sp:Sp}(F:Fun K x qual st f fd)(S:qv N ps (qj st))(len:∀vs H Q E,sp vs H Q E->vs.length=ps.length)
  (O:∀(cdv:o6) (A:oh) (outer:oj Env) (s:o7) (H:Hp) (vs:oj V) (Q:VK) (E:XK),Room k (A.deeper (V0 qual (qj st) s.heap.objs.size f cdv))->sp vs H Q E->
   ∃t,PSs (cxOf CX0 P w K mg base N qual (qj st) f cdv A outer s H E).nox (yU st) t/\t {nx:=λ_ H'=>Q .non H',rt:=Q} (kg N vs) H):FnOk P w K mg base CX0 (k+1) f fd ps sp:=by
 erw[F.ex,oc,od,kV,doc,pm,an,cdv,ct,osl,rfl,lk,U];refine fn_of lk U S len λA outer s H vs Q E hr Z=> ?_;erw[O cdv A outer s H vs Q E hr Z,t,h,q];exact[t:h.nox:q]
theorem Fun.binds {x qual:Str}{st:Stmt}{f:o3}{fd:UX}{ps:oj Str}(F:Fun K x qual st f fd)
  (h:∀(kV doc pm:o6) (an:om o3) (cdv ct:o6) (us:oj o6),us.length=ps.length->VS (PySem.W.fnOf x qual (YD st) (yU st) (qj st) .none kV doc pm an cdv ct) [us:[]]=pure (ps.zip us)):zo K fd ps []:=by
 erw[F.ex,oc,od,kV,doc,pm,an,cdv,ct,osl,rfl,lk,O];exact .all (h kV doc pm an cdv ct)
theorem fun_mk {x qual:Str}{st:Stmt}{f:o3}{oc:o6}{od an:om o3}{osl:Array (om o6)}{kV doc pm cdv ct:o6}(l:K.lookup f=u_ ⟨oc,od,.func (PySem.W.fnOf x qual (YD st) (yU st) (qj st) .none kV doc pm an cdv ct),osl⟩)
  (c:PySem.W.codeIn K cdv qual=v_) (k:PySem.W.keepIn K (.ref f)=v_):Fun K x qual st f (PySem.W.fnOf x qual (YD st) (yU st) (qj st) .none kV doc pm an cdv ct):=[⟨oc,od,kV,doc,pm,an,cdv,ct,osl,1,l,c⟩:k]
end
variable {A:oh}
theorem Q5 {k:Nat}(O:Room k A):A.units+1<cLine:=Ud (Nat.add_le_add_left (by decide:1<=64) _) O.units
variable {n:Nat}
theorem XM (h:n<=1000):n<sizeLine:=Ud h ()
section
variable {X:Cx}
theorem pv (i:Nat){x:Str}{pos:Pos}(U:X.N[i]? =u_ x:=by rfl)(Z:Vis X.env.scope x:=by first|exact Ge rfl|exact VL (Ge rfl)|exact VL (VL rfl))(hd:(x==("__debug__":Str))=false:=by decide)
  (O:(x==("__classdict__":Str))=false:=by decide):PE X (.Name x pos) (tVar i):=pe_var U Z hd O
theorem call_lenD:Yx X (.builtin "len") (λxs H Q=>∃a kvs,xs= [V.ref a]/\H a=u_ (.dK kvs)/\Q (.int kvs.length) H):=by
 intro oq s σ H xs us Q I r h;erw[h,a,kvs,rfl,ha,q];erw[xw r,u,rfl,ru];cases ru;exact d_len I (.inl ha) λt s' O=>⟨.int kvs.length,H,O,[t:1],q⟩
end
theorem iteF {A B:Prop}(h:B):if UV=v_ then A else B:=by
 rw [A2 u9];exact h
theorem iteT {A B:Prop}(h:A):if v_=v_ then A else B:=by
 rw [A3 rfl];exact h
theorem ite2 {c A B:Prop}[Decidable c](h1:c->A)(h2:¬c->B):if c then A else B:=by
 by_cases h:c
 ·rw [A3 h];exact h1 h
 ·rw [A2 h];exact h2 h
noncomputable def Same (H H':Hp):Prop:=∀b o,H b=u_ o->H' b=u_ o
theorem Same.refl (H:Hp):Same H H:=λ_ _ h=>h
variable {H H1 H2:Hp}
theorem Same.trans (a:Same H H1)(b:Same H1 H2):Same H H2:=λc o h=>b c o (a c o h)
variable {H':Hp}
theorem Same.free (e:Same H H'){l:o3}(h:H' l=Option.none):H l=Option.none:=by
 cases q:H l with
 |none=>rfl
 |some o=>
  rw [e l o q] at h;cases h
section
variable {κ:Type}[DecidableEq κ]
variable {kvs:oj (κ×V)}{v:V}
theorem valV_in {k:κ}(h:valV kvs k=u_ v):k∈kvs.map (·.1):=by
 have q:(kvs.any λkv=>decide (kv.1=k))=true:=by
  rw [JR,h]
  all_goals rfl
 erw[List.any_eq_true.mp q,p,O,e];exact A8.mpr [p:O:uj e]
theorem dropK_pos {p:κ×V}{r:oj (κ×V)}{k:κ}(e:p.1=k):Jc (p::r) k=Jc r k:=by
 unfold Jc;rw [vK,A2 (by simp [e])]
theorem dropK_neg {p:κ×V}{r:oj (κ×V)}{k:κ}(e:¬p.1=k):Jc (p::r) k=p::Jc r k:=by
 unfold Jc;rw [vK,A3 (by simp [e])]
end
end L2
namespace L2
open PySem
inductive D where
 |non|bl (b:Bool)|int (i:Int)|str (z:Str)|lst|dct|tup (xs:List D)
noncomputable def QE (c:Nat):Bool:=decide (32<=c)&&decide (c<=126)&&decide (c≠37)
noncomputable def Qx (z:Str):Bool:=decide (z.length<=300)&&z.cps.toList.all QE
mutual
noncomputable def good:D->Bool
 | .str z=>Qx z
 | .tup xs=>decide (xs.length<=40)&&goodL xs
 |_=>UV
noncomputable def goodL:oj D->Bool
 | []=>v_
 |x::r=>good x&&goodL r
end
mutual
noncomputable def sz:D->Nat
 | .str z=>z.length+1
 | .tup xs=>1+szL xs
 |_=>0
noncomputable def szL:oj D->Nat
 | []=>0
 |x::r=>sz x+szL r
end
mutual
noncomputable def dp:D->Nat
 | .str _=>1
 | .tup xs=>1+dpL xs
 |_=>0
noncomputable def dpL:oj D->Nat
 | []=>0
 |x::r=>max (dp x) (dpL r)
end
mutual
noncomputable def nd:D->Nat
 | .tup xs=>1+ndL xs
 |_=>1
noncomputable def ndL:oj D->Nat
 | []=>0
 |x::r=>nd x+ndL r
end
noncomputable def isT (d:D):Bool:=good d&&decide (sz d<=600)&&decide (dp d<=12)
theorem zy:∀(xs ys:oj D),szL (xs++ys)=szL xs+szL ys
 | [],ys=>by simp [szL]
 |x::r,ys=>by simp only [vQ,szL,zy r ys];omega
theorem X6:∀(xs ys:oj D),ndL (xs++ys)=ndL xs+ndL ys
 | [],ys=>by simp [ndL]
 |x::r,ys=>by simp only [vQ,ndL,X6 r ys];omega
theorem wt {k:Nat}:∀(xs:oj D),dpL xs<=k↔∀x∈xs,dp x<=k
 | []=>by simp [dpL]
 |x::r=>by
  have U:=wt (k:=k) r;have e:dpL (x::r)=max (dp x) (dpL r):=by simp only [dpL]
  rw [e];constructor
  ·intro h y O;rcases A5.mp O with rfl|O
   ·omega
   ·exact U.mp () y O
  ·intro h;have h1:=h x uf;have h2:=U.mpr λy O=>h y (uc _ O);omega
theorem dp_pos {d:D}(h:good d=v_):1<=dp d:=by
 cases d<;>simp_all [good,dp]
noncomputable def wOk (w:oj (D×Nat)):Bool:=w.all λp=>good p.1&&decide (p.2+dp p.1<=13)
noncomputable def wSz (w:oj (D×Nat)):Nat:=szL (w.map (·.1))
noncomputable def G (w:oj (D×Nat))(n:Nat):Bool:=wOk w&&decide (n+wSz w<=600)
theorem G_start (d:D):G [(d,1)] 0=isT d:=by
 simp only [G,wOk,wSz,isT,vn,rm,uq,vR,szL,vE,t_,rc];have e:decide (1+dp d<=13)=decide (dp d<=12):=by
  rw [uW];omega
 rw [e];cases good d<;>cases decide (sz d<=600)<;>cases decide (dp d<=12)<;>rfl
variable {n:Nat}
theorem G_nil (h:n<=600):G [] n=true:=by simp [G,wOk,wSz,szL,h]
theorem G_snoc (w:oj (D×Nat))(d:D)(k n:Nat):G (w++ [(d,k)]) n=(wOk w&&(good d&&decide (k+dp d<=13))&&decide (n+(wSz w+sz d)<=600)):=by
 simp only [G,wOk,wSz,UD,vn,rm,vE,ur,uq,vR,zy,szL,rc]
 rfl
theorem G_bad {w:oj (D×Nat)}{d:D}{k:Nat}(h:good d=UV):G (w++ [(d,k)]) n=false:=by
 rw [G_snoc,h];simp
theorem G_deep {w:oj (D×Nat)}{d:D}{k:Nat}(h:12<k):G (w++ [(d,k)]) n=false:=by
 rw [G_snoc];cases O:good d with
 |false=>simp
 |true=>
  have:=dp_pos O;have e:decide (k+dp d<=13)=false:=ud ()
  rw [e];simp
theorem G_big {w:oj (D×Nat)}{d:D}{k:Nat}(h:600<n+sz d):G (w++ [(d,k)]) n=false:=by
 rw [G_snoc];have e:decide (n+(wSz w+sz d)<=600)=false:=ud ()
 rw [e];simp
theorem G_big1 {w:oj (D×Nat)}{xs:oj D}{k:Nat}(h:600<n+1):G (w++ [(.tup xs,k)]) n=false:=G_big (by simp only [sz];omega)
theorem wOk_map (xs:oj D)(k:Nat):wOk (xs.map λx=>(x,k+1))=(goodL xs&&xs.all λx=>decide (k+1+dp x<=13)):=by
 induction xs with
 |nil=>rfl
 |cons x r O=>
  simp only [uq,wOk,vn,goodL] at O⊢;rw [O];cases good x<;>cases decide (k+1+dp x<=13)<;>cases goodL r<;>simp
theorem wSz_map (xs:oj D)(k:Nat):wSz (xs.map λx=>(x,k+1))=szL xs:=by
 unfold wSz;rw [uJ]
 congr 1
 induction xs with
 |nil=>rfl
 |cons x r O=>simp only [uq,O];rfl
theorem G_tup {w:oj (D×Nat)}{xs:oj D}{k:Nat}(U:xs.length<=40)(hk:k<=12):G (w++ [(.tup xs,k)]) n=G (w++xs.map λx=>(x,k+1)) (n+1):=by
 rw [G_snoc];unfold G;have Z:wOk (w++xs.map λx=>(x,k+1))=(wOk w&&wOk (xs.map λx=>(x,k+1))):=by unfold wOk;rw [UD]
 have e2:wSz (w++xs.map λx=>(x,k+1))=wSz w+szL xs:=by
  have:=wSz_map xs k;unfold wSz at this⊢;rw [ur,zy,this]
 have e3:decide (k+dp (.tup xs)<=13)=xs.all λx=>decide (k+1+dp x<=13):=by
  have q:=wt (k:=12-k) xs;have e0:dp (.tup xs)=1+dpL xs:=by simp only [dp]
  rw [e0,vF];constructor
  ·intro h;have h:=uj h;refine List.all_eq_true.mpr λx O=>ub ?_;have h2:=q.mp () x O
   omega
  ·intro h;refine ub ?_;have h2:=q.mpr λx O=>by
    have h3:=uj (List.all_eq_true.mp h x O);omega
   omega
 rw [Z,e2,e3,wOk_map];have e4:good (.tup xs)=goodL xs:=by simp only [good,ub U,HK]
 have e5:decide (n+(wSz w+sz (.tup xs))<=600)=decide (n+1+(wSz w+szL xs)<=600):=by
  rw [uW];simp only [sz];omega
 rw [e4,e5]
variable {z:Str}
theorem G_str {w:oj (D×Nat)}{k:Nat}(O:Qx z=v_)(hk:k<=12):G (w++ [(.str z,k)]) n=G w (n+(1+z.length)):=by
 rw [G_snoc];unfold G;have U:good (.str z)=true:=by simp only [good,O]
 have Z:decide (k+dp (.str z)<=13)=true:=ub (by simp only [dp];omega)
 have e5:decide (n+(wSz w+sz (.str z))<=600)=decide (n+(1+z.length)+wSz w<=600):=by
  rw [uW];simp only [sz];omega
 rw [U,Z,e5];simp
end L2
namespace AwZ
open PySem PyProof.Rows
open PySem.AutoSeq1 (wpAny_loadPart')
section
variable {prog:o9}{w:og}{A:oh}{E:o6->o7->Prop}{s:o7}
theorem tdraw {j t:o3}{i:Nat}{its:Array o6}{x:o6}{Q:o6->o7->Prop}(U:s.heap.IsTupleIter j t i)(gt:s.heap.IsTuple t its)(gx:its[i]? =u_ x)
  (q:∀h2,h2.IsTupleIter j t (i+1)->Gr j s.heap h2->Q x {s with heap:=h2}):UW #[w,w] A (VW (.ref j)) Q E s:=by
 erw[id U,u,O,cu,du];erw[gt,ut,Z,_,nt,aa];unfold VW;refine A4 (vw (name:=G7 "__next__") U.typeIs vO
  (vP vO U.typeIs F.entry_tuple_iterator_next ?_ (F.args_tuple_iterator_next_1 _)))
 show UW _ _ (VR (.ref j) 0>>=_) _ _ s;refine A4 (vv O du (x:= .ref t) rfl ?_);show UW _ _ (if(V1 t==Vy)=v_ then _ else _) _ _ s
 rw [A2 (show¬(V1 t==Vy)=v_ from u9)]
 show UW _ _ (VR (.ref j) 1>>=_) _ _ s;refine A4 (vv O du (x:= .int i 0) rfl ?_);show UW _ _ (HH (.ref t)>>=_) _ _ s;refine A4 (U7 Z aa ?_);simp only [tN,gx];refine A4 (FJ O du (by simp) (uz [x:1:uz (q _ ?_ (rN ..))]))
 exact⟨_,Hm _ O (Obj.isFreed_of_fields (r_ du _)),(Obj.cls_mapFields ..).trans cu,by rw [r_ du];simp [VI]⟩
theorem tdraw_end {j t:o3}{i:Nat}{its:Array o6}{Q:o6->o7->Prop}(hh:A.handled=UU)(O:s.heap.IsTupleIter j t i)(gt:s.heap.IsTuple t its)(gx:its[i]? =UU)
  (q:∀h2 e,Heap.ExtBut j s.heap h2->(∃u,h2.get? e=u_ u/\u.cls= .type "StopIteration")->E (.ref e) {s with heap:=h2}):UW #[w,w] A (VW (.ref j)) Q E s:=by
 erw[id O,u,U,cu,du];erw[gt,ut,Z,_,nt,aa];unfold VW;refine A4 (vw (name:=G7 "__next__") O.typeIs vO
  (vP vO O.typeIs F.entry_tuple_iterator_next ?_ (F.args_tuple_iterator_next_1 _)))
 show UW _ _ (VR (.ref j) 0>>=_) _ _ s;refine A4 (vv U du (x:= .ref t) rfl ?_);show UW _ _ (if(V1 t==Vy)=v_ then _ else _) _ _ s
 rw [A2 (show¬(V1 t==Vy)=v_ from u9)]
 show UW _ _ (VR (.ref j) 1>>=_) _ _ s;refine A4 (vv U du (x:= .int i 0) rfl ?_);show UW _ _ (HH (.ref t)>>=_) _ _ s;refine A4 (U7 Z aa ?_);simp only [tN,gx];refine A4 (UK (A4 (FJ U du (by simp) ?_)))
 show UW _ _ (newExc (.type "StopIteration") []>>=_) _ _ _;refine A4 ?_;simp only [newExc,newTuple];refine A4 (vj ?_ (by size_fits))
 refine A4 (m:=tS _ _) (tT (a:=Vy) (by first|rfl|(simp only [tS];rfl)) ?_)
 refine vj ?_ (by size_fits)
 simp only [raiseNew];refine A4 (wpAny_handled ?_)
 first|rw [show A.in1.handled=UU from hh]|rw [hh]
 refine A4 (uz (R7 ?_));exact q _ _ (((rN ..).extBut.push _).push _) [_:uE _ rfl:1]
structure Apt (z p r i j a b:o3):Prop where
 pz:p≠z
 rz:r≠z
 iz:i≠z
 jz:j≠z
 pr:p≠r
 pi:p≠i
 pj:p≠j
 ri:r≠i
 rj:r≠j
 ij:i≠j
 az:a≠z
 ar:a≠r
 ai:a≠i
 aj:a≠j
 bz:b≠z
 br:b≠r
 bi:b≠i
 bj:b≠j
theorem ziptl {z p r i j a b:o3}{k:Nat}{xs ys:Array o6}{x y u v:o6}{Q:o6->o7->Prop}(D:Apt z p r i j a b)
  (Z:Vk s.heap z p r .none) (hp:V9 s.heap p (.ref i) (.ref j)) (hr:V9 s.heap r u v)
  (hi:s.heap.IsTupleIter i a k) (hj:s.heap.IsListIter j b k) (ha:s.heap.IsTuple a xs) (hb:s.heap.IsList b ys) (hx:xs[k]? =u_ x) (hy:ys[k]? =u_ y)
  (q:∀h2,Vk h2 z p r (VI s.heap.objs.size)->V9 h2 r x y->h2.IsTupleIter i a (k+1)->h2.IsListIter j b (k+1)->V9 h2 s.heap.objs.size x y->h2.objs.size=s.heap.objs.size+1->
   (∀c o,c≠z->c≠r->c≠i->c≠j->s.heap.get? c=u_ o->h2.get? c=u_ o)->Q (.ref s.heap.objs.size) {s with heap:=h2}):
  UW #[w,w] A (g_.«zip.__next__» [[.ref z]:[]]) (λfin t=>∃v,fin= .done (.ret v)/\Q v t) E s:=by
 show UW _ _ (VR (.ref z) 2>>=_) _ _ _;refine A4 (vv Z rfl (x:= .bool UV) rfl ?_);show UW _ _ (VR (.ref z) 3>>=_) _ _ _;refine A4 (vv Z rfl (x:= .ref p) rfl ?_);refine A4 (U7 hp rfl ?_);show UW _ _ (GY (.ref z)>>=_) _ _ s;refine A4 ?_;unfold GY;refine A4 (vv Z rfl (x:= .none) rfl (uz ?_));simp only [UT];refine A4 (UK ?_);refine A4 (vv Z rfl (x:= .ref r) rfl ?_);refine A4 (Ue Z (by simp) λh1 z1 s1=> ?_)
 replace z1:Vk h1 z p r .ellipsis:=z1
 refine A4 ?_;simp only [Fk,Ta,Ui,Fa];refine A4 (A4 (Hk ?_));show UW _ _ (VW (.ref i)>>=_) _ _ _;refine A4 (tdraw (hi.extBut s1.extBut D.iz) (ha.extBut s1.extBut D.az) hx λh2 i2 s2=>uz ?_);have r2:V9 h2 r u v:=s2.extBut _ _ D.ri (s1.extBut _ _ D.rz hr);refine A4 (U7 r2 rfl ?_);refine A4 (TX r2 λh3 r3 U=> ?_)
 replace r3:V9 h3 r x v:=r3
 refine A4 (FD (uz ?_));refine A4 (A4 (Hk ?_));show UW _ _ (VW (.ref j)>>=_) _ _ _;refine A4 (wpAny_nextOf_list_item (((hj.extBut s1.extBut D.jz).extBut s2.extBut D.ij.symm).extBut U.extBut D.rj.symm)
  (((hb.extBut s1.extBut D.bz).extBut s2.extBut D.bi).extBut U.extBut D.br) hy λh4 j4 s4=>uz ?_)
 have r4:V9 h4 r x v:=s4.extBut _ _ D.rj r3;refine A4 (U7 r4 rfl ?_);refine A4 (TX r4 λh5 r5 s5=> ?_)
 replace r5:V9 h5 r x y:=r5
 refine A4 (FD (uz (uz ?_)));refine A4 (U7 r5 rfl ?_);refine A4 (wpAny_newTuple ?_);have sz:h5.objs.size=s.heap.objs.size:=by rw [s5.1,s4.1,U.1,s2.1,s1.1]
 have z5:Vk h5 z p r .ellipsis:=s5.extBut _ _ D.rz.symm (s4.extBut _ _ D.jz.symm (U.extBut _ _ D.rz.symm (s2.extBut _ _ D.iz.symm z1)));have k5:∀c o,c≠z->c≠r->c≠i->c≠j->s.heap.get? c=u_ o->h5.get? c=u_ o:=λc o O c2 c3 c4 e=>
  s5.extBut _ _ c2 (s4.extBut _ _ c4 (U.extBut _ _ c2 (s2.extBut _ _ c3 (s1.extBut _ _ O e))))
 have i5:h5.IsTupleIter i a (k+1):=((i2.extBut U.extBut D.ri.symm).extBut s4.extBut D.ij).extBut s5.extBut D.ri.symm;have j5:h5.IsListIter j b (k+1):=j4.extBut s5.extBut D.rj.symm;have aa:z<h5.objs.size:=uD z5;show UW _ _ (Tl (.ref z) (.ref h5.objs.size)>>=_) _ _ _;refine A4 ?_;unfold Tl;have z6:Vk (h5.push {cls:= .type "tuple",data:= .seq #[x,y]}) z p r .ellipsis:=ue _ z5;refine A4 (Ue z6 (by simp) λh7 z7 s7=> ?_)
 replace z7:Vk h7 z p r (VI h5.objs.size):=z7
 refine Ue z7 (by simp) λh8 z8 s8=> ?_
 replace z8:Vk h8 z p r (VI h5.objs.size):=z8
 have up:∀c o,c≠z->h5.get? c=u_ o->h8.get? c=u_ o:=λc o O e=>s8.extBut _ _ O (s7.extBut _ _ O (ue _ e));have t8:V9 h8 h5.objs.size x y:=s8.extBut _ _ (Uh aa) (s7.extBut _ _ (Uh aa) (uE _ rfl));have n8:h8.objs.size=h5.objs.size+1:=by rw [s8.1,s7.1,vk]
 rw [sz] at z8 t8 n8;refine uz [0:?_];show Q (.ref h5.objs.size) _;rw [sz];exact q h8 z8 (up _ _ D.rz r5) (by erw[i5,o,e,g];exact[o:up _ o D.iz e:g]) (j5.at λo e=>up _ o D.jz e) t8 n8 λc o O c2 c3 c4 e=>up c o O (k5 c o O c2 c3 c4 e)
theorem zip_go {z p r i j a b:o3}{k:Nat}{xs ys:Array o6}{x y u v:o6}{Q:om o6->o7->Prop}(D:Apt z p r i j a b)
  (O:Vk s.heap z p r .none) (Z:V9 s.heap p (.ref i) (.ref j)) (hr:V9 s.heap r u v)
  (hi:s.heap.IsTupleIter i a k) (hj:s.heap.IsListIter j b k) (ha:s.heap.IsTuple a xs) (hb:s.heap.IsList b ys) (hx:xs[k]? =u_ x) (hy:ys[k]? =u_ y)
  (q:∀h2,Vk h2 z p r (VI s.heap.objs.size)->V9 h2 r x y->h2.IsTupleIter i a (k+1)->h2.IsListIter j b (k+1)->V9 h2 s.heap.objs.size x y->h2.objs.size=s.heap.objs.size+1->
   (∀c o,c≠z->c≠r->c≠i->c≠j->s.heap.get? c=u_ o->h2.get? c=u_ o)->Q (u_ (.ref s.heap.objs.size)) {s with heap:=h2}):
  UW #[w,w] A (VJ (.ref z)) Q E s:=by
 have U:s.TypeIs (.ref z) "zip":=[_:O:1];unfold VJ;exact A4 (GE (vw (name:=G7 "__next__") U F.slot_zip_next
  (vP F.slot_zip_next U F.entry_zip_next (ziptl D O Z hr hi hj ha hb hx hy λh2 b1 b2 b3 b4 b5 b6 b7=>uz (q h2 b1 b2 b3 b4 b5 b6 b7)) (F.args_zip_next_1 _))))
theorem zip_stop {z p r i j a b:o3}{k:Nat}{xs:Array o6}{Q:om o6->o7->Prop}(hh:A.handled=UU)(D:Apt z p r i j a b)
  (O:Vk s.heap z p r .none) (hp:V9 s.heap p (.ref i) (.ref j)) (hi:s.heap.IsTupleIter i a k) (ha:s.heap.IsTuple a xs) (hx:xs[k]? =UU)
  (q:∀h2,(∀c o,c≠z->c≠r->c≠i->c≠j->s.heap.get? c=u_ o->h2.get? c=u_ o)->Q UU {s with heap:=h2}):UW #[w,w] A (VJ (.ref z)) Q E s:=by
 have tz:s.TypeIs (.ref z) "zip":=[_:O:1];unfold VJ;refine A4 (GE (vw (name:=G7 "__next__") tz F.slot_zip_next
  (vP F.slot_zip_next tz F.entry_zip_next ?_ (F.args_zip_next_1 _))))
 show UW _ _ (VR (.ref z) 2>>=_) _ _ _;refine A4 (vv O rfl (x:= .bool UV) rfl ?_);show UW _ _ (VR (.ref z) 3>>=_) _ _ _;refine A4 (vv O rfl (x:= .ref p) rfl ?_);refine A4 (U7 hp rfl ?_);show UW _ _ (GY (.ref z)>>=_) _ _ s;refine A4 ?_;unfold GY;refine A4 (vv O rfl (x:= .none) rfl (uz ?_));simp only [UT];refine A4 (UK ?_);refine A4 (vv O rfl (x:= .ref r) rfl ?_);refine A4 (Ue O (by simp) λh1 U s1=> ?_)
 replace U:Vk h1 z p r .ellipsis:=U
 refine A4 ?_;simp only [Fk,Ta,Ui,Fa];refine A4 (A4 (Hk ?_));show UW _ _ (VW (.ref i)>>=_) _ _ _;refine A4 (tdraw_end hh (hi.extBut s1.extBut D.iz) (ha.extBut s1.extBut D.az) hx λh2 e s2 he=> ?_);erw[he,oe,Z,ce];have z2:Vk h2 z p r .ellipsis:=s2 _ _ D.iz.symm U;have ez:e≠z:=λx=>by subst x;rw [z2] at Z;cases Z;simp at ce
 refine Ue z2 (by simp) λh3 _ s3=> ?_
 refine A4 (UP (T:="StopIteration") (b:=v_) [oe:s3.extBut _ _ ez Z:ce] isSubtype_stop ?_);exact uz (q _ λc o c1 _ c3 _ x=>s3.extBut _ _ c1 (s2 _ _ c3 (s1.extBut _ _ c1 x)))
noncomputable abbrev q1 (h:o8)(a:o3):o8:=h.push {cls:= .type "tuple_iterator",data:= .fields #[.ref a,.int 0 0]}
noncomputable abbrev q2 (h:o8)(a b:o3):o8:=(q1 h a).push {cls:= .type "list_iterator",data:= .fields #[.ref b,.int 0 0]}
noncomputable abbrev q3 (h:o8)(a b:o3):o8:=(q2 h a b).push {cls:= .type "tuple",data:= .seq #[.ref h.objs.size,.ref (q1 h a).objs.size]}
noncomputable abbrev q4 (h:o8)(a b:o3):o8:=(q3 h a b).push {cls:= .type "tuple",data:= .seq #[.none,.none]}
noncomputable abbrev q5 (h:o8)(a b:o3):o8:=(q4 h a b).push {cls:= .type "zip",data:= .fields #[.none,.bool UV,.bool UV,.ref (q2 h a b).objs.size,.ref (q3 h a b).objs.size]}
theorem zip_made (a b:o3)(xs ys:Array o6):Meets (g_.«zip.__new__» [[.type "zip",.ref a,.ref b]:[]]) (λ_ R s=>s.heap.IsTuple a xs/\s.heap.IsList b ys/\R (.ok (.ret (.ref (q4 s.heap a b).objs.size))) {s with heap:=q5 s.heap a b}):=
 .of_wp λprog w A R s h=>by
  erw[s,O,g,d,tk,os];erw[h,ha,U,h];have sub:=sub_zip;have h1:Heap.IsTuple (Fe ⟨O,g,d,tk,os⟩) a xs:=ha;have h2:Heap.IsList (Fe ⟨O.push {cls:= .type "tuple_iterator",data:= .fields #[.ref a,.int 0 0]},g,d,tk,os⟩) b ys:=Rs U _
  wp_walk using tY h1,UJ h2
  exact[0:h]
theorem zip_call {a b:o3}{xs ys:Array o6}{Q:o6->o7->Prop}(ha:s.heap.IsTuple a xs)(hb:s.heap.IsList b ys)
  (h:∀h2,Vk h2 (s.heap.objs.size+4) (s.heap.objs.size+2) (s.heap.objs.size+3) .none->V9 h2 (s.heap.objs.size+2) (.ref s.heap.objs.size) (.ref (s.heap.objs.size+1))->
   V9 h2 (s.heap.objs.size+3) .none .none->h2.IsTupleIter s.heap.objs.size a 0->h2.IsListIter (s.heap.objs.size+1) b 0->h2.objs.size=s.heap.objs.size+5->
   (∀c o,s.heap.get? c=u_ o->h2.get? c=u_ o)->Q (.ref (s.heap.objs.size+4)) {s with heap:=h2}):UW #[w,w] A (call (.type "zip") [.ref a,.ref b]) Q E s:=by
 refine callType_new F.called_zip () (F.typeCall_zip_2 _ _) (F.newCall_zip_2 _ _) (λobj=>F.args_object_init_3 obj _ _) F.entry_zip_new (zip_made a b xs ys) [ha:hb:?_]
 have O:(q1 s.heap a).objs.size=s.heap.objs.size+1:=vk ..;have U:(q2 s.heap a b).objs.size=s.heap.objs.size+2:=by rw [vk,O]
 have Z:(q3 s.heap a b).objs.size=s.heap.objs.size+3:=by rw [vk,U]
 have z4:(q4 s.heap a b).objs.size=s.heap.objs.size+4:=by rw [vk,Z]
 have z5:(q5 s.heap a b).objs.size=s.heap.objs.size+5:=by rw [vk,z4]
 have g5:(q5 s.heap a b).get? (q4 s.heap a b).objs.size=u_ _:=uE _ rfl;have g4:(q5 s.heap a b).get? (q3 s.heap a b).objs.size=u_ _:=ue _ (uE _ rfl);have g3:(q5 s.heap a b).get? (q2 s.heap a b).objs.size=u_ _:=ue _ (ue _ (uE _ rfl));have g2:(q5 s.heap a b).get? (q1 s.heap a).objs.size=u_ _:=ue _ (ue _ (ue _ (uE _ rfl)));have g1:(q5 s.heap a b).get? s.heap.objs.size=u_ _:=ue _ (ue _ (ue _ (ue _ (uE _ rfl))));show _/\_;rw [U,Z,z4] at g5;rw [O,U] at g3;rw [Z] at g4;rw [O] at g2;rw [z4];exact[[_:g5:1]:h _ g5 g3 g4 ⟨_,g1,1,1⟩ ⟨_,g2,1,1⟩ z5 λc o x=>ue _ (ue _ (ue _ (ue _ (ue _ x))))]
end
end AwZ
namespace L2
open PySem PySem.Spec PyProof.Rows
noncomputable def Its (x:Str):It:=⟨λi _=>i<x.cps.size,λi H v H'=>H'=H/\∃c,x.cps[i]? =u_ c/\v= .str ⟨#[c]⟩,λi _=>i=x.cps.size⟩
variable {w:og}{K:o0}{tg:Expr}{x:Str}
theorem turn_str {P:o9}{t:Tok}{it:o3}(ty:String)(O:ty="str_ascii_iterator"∨ty="str_iterator"):
  Turn P w K tg (Its x) [it] it (λi h=>h.IsStrIter it ty x t i) where
 mem:=by simp
 obj:=λi h st b U=>by
  have e:b=it:=by simpa using U
  subst e;erw[st,o,e,c,d];exact⟨o,e,λv z=>by rw [d] at z;cases z⟩
 keep:=λi h h' st k=>by
  erw[st,o,e,r];exact⟨o,k it (by simp) o e,r⟩
 item:=by
  intro X hP hw hK Z i oq s σ H E I hf st hg;subst hP hw hK;obtain⟨f0,f1,f2,f3,f4,f5⟩:=hf it (by simp)
  have W:Walks X.prog X.w X.A it [it] [it] x.cps.size (SignAt x) (λi h=>h.IsStrIter it ty x t i):=by
   rcases O with rfl|rfl
   ·exact FI (I.ok.hd Z) it x t
   ·exact Td (I.ok.hd Z) it x t
  refine uX (n:=1) I.tk (W.item i s _ _ hg st λv h' tk hv aa kk=> ?_);intro htk;erw[hv,c,u,hx,rfl];have I1:Inv X oq σ H {s with heap:=h',toks:=tk}:=I.turned (λb o U e=>kk b o (by simpa using U) e) f0 f1 f3 f4 f5
  erw[id aa,o,e,c',d];refine⟨0,go_of (s:={s with heap:=h',toks:=tk}) e c' d (by rcases O with rfl|rfl<;>decide) ⟨.str ⟨#[c]⟩,H,I1,[u:1],⟨1,c,hx,1⟩,aa,λb U=>(hf b U).1⟩⟩
 done:=by
  intro X hP hw hK Z i oq s σ H E I hf st hg;subst hP hw hK;have ac:i=x.cps.size:=hg;subst ac;obtain⟨f0,f1,f2,f3,f4,f5⟩:=hf it (by simp)
  have W:Walks X.prog X.w X.A it [it] [it] x.cps.size (SignAt x) (λi h=>h.IsStrIter it ty x t i):=by
   rcases O with rfl|rfl
   ·exact FI (I.ok.hd Z) it x t
   ·exact Td (I.ok.hd Z) it x t
  exact uX (n:=1) I.tk (W.done s _ _ st λh' tk kk htk=>⟨1,I.turned (λb o U e=>kk b o (by simpa using U) e) f0 f1 f3 f4 f5⟩)
 self:=λ_ _ _ _ _ st h=>by
  rcases O with rfl|rfl
  ·exact wpAny_pyIter_striter_ascii st h
  ·exact wpAny_pyIter_striter_wide st h
section
variable {X:Cx}{tg:Expr}
inductive IiStr (R:(It->Hp->Prop)) (x:V) (H1:Hp):Prop
 |mk (z:_) (_:x= .str z) (_:R (Its z) H1)
noncomputable def iStr (tl:TE):TI:=λσ H R=>tl σ H λx H1=>IiStr R x H1
theorem pi_str {l:Expr}{tl:TE}(U:PE X l tl):PI X tg l (iStr tl):=by
 intro oq s σ H R I h;refine thn (U oq s σ H _ I h) λv s1 zq=> ?_;erw[zq,x,H1,O,Z,q1];erw[q1,z,e,q];subst e;erw[Z,t,rfl];have fp:∀(o:Obj),∀b∈ [s1.heap.objs.size],FpOk X oq H1 b:=λo b hb=>by
  have e:b=s1.heap.objs.size:=by simpa using hb
  subst e;exact O.fpOk (uh _) (O.hok.fresh (uh _))
 cases ha:z.cps.all (·<128)
 ·refine wpAny_pyIter_wide ha ?_;exact⟨s1.heap.objs.size,[s1.heap.objs.size],_,_,H1,1,O.kept (t':=s1.toks) λb o e=>ue _ e,turn_str "str_iterator" (.inr rfl),⟨_,uE _ rfl,1,1⟩,fp default,q⟩
 ·refine wpAny_pyIter_ascii ha ?_;exact⟨s1.heap.objs.size,[s1.heap.objs.size],_,_,H1,1,O.kept (t':=s1.toks) λb o e=>ue _ e,turn_str "str_ascii_iterator" (.inl rfl),⟨_,uE _ rfl,1,1⟩,fp default,q⟩
inductive rSlS (x:V) (lo:Option Int) (hi:Option Int) (H:Hp) (Q:VK):Prop
 |mk (z:_) (_:x= .str z) (_:z.length<=UY) (_:Q (.str (GN z lo hi)) H)
noncomputable def tokOf:o6->om (Int×Tok)
 | .int i t=>u_ (i,t)
 |_=>UU
theorem sl_str:SlR X rSlS:=by
 intro oq s σ H x v O U lo hi sl Q I rx hs pl pu h;erw[h,z,rfl,hz,q];erw[rx,t,rfl];exists "str",_,F.slot_str_getitem.lookup,vI _ _ _;have Z:O=partValue (tokOf O)/\lo=(tokOf O).map (·.1):=by cases pl<;>exact[1:1]
 have hu:U=partValue (tokOf U)/\hi=(tokOf U).map (·.1):=by cases pu<;>exact[1:1]
 erw[hs,o,e1,e2,e3];refine uX (n:=1) I.tk ?_;refine wpAny_getItem_str_slice (l:=tokOf O) (u:=tokOf U) (st:=UU) ⟨o,e1,e2,by rw [e3,<-Z.1,<-hu.1];rfl⟩ rfl ?_
 refine post_val_or_str [?_:λt' k=> ?_]
 ·exact uO (TQ z _ _) hz
 ·intro htk;exact⟨.str (GN z lo hi),H,I.tok k,⟨t',by rw [Z.2,hu.2];rfl⟩,q⟩
theorem qZ {K:o0}(U:X.K=K):Yx X (.builtin "isinstance") (λxs H Q=>∃x T t b,xs= [x,.ty T]/\TyOf K H x t/\PySem.W.kitOne K t (.type T)=u_ b/\Q (.bl b) H):=by
 intro oq s σ H xs us Q I r h;erw[h,x,T,t,b,rfl,ty,e,q];erw[vals2 r,u,Z,rfl,ru,O];cases O;subst U;exact uX (n:=1) I.tk (isinst_ok I ru ty e λtk htk=>⟨.bl b,H,I.tok tk,1,q⟩)
theorem all_range:∀bs:oj Bool,(V4 bs.length).all (λi=>bs.getD i v_)=bs.all id
 | []=>rfl
 |b::r=>by
  rw [ui,tD,vn,U2,vn];have e:(V4 r.length).all ((λi=>(b::r).getD i v_)∘tG)=(V4 r.length).all λi=>r.getD i true:=by
   congr 1
  rw [e,all_range r]
  rfl
theorem ww (hc:X.calm=v_):Yx X (.builtin "all") (λxs H Q=>∃(p:o3) (bs:oj Bool),xs= [.ref p]/\SqL X.K H p (bs.map V.bl)/\Q (.bl (bs.all id)) H):=by
 intro oq s σ H xs us Q I r h;erw[h,p,bs,rfl,hp,q];erw[xw r,u,rfl,ru];cases ru;erw[I.list hp,its,rv,pl,hz];have aa:p<s.heap.objs.size:=by erw[pl,o,n,e,_];exact uD e
 refine uX (n:=1) I.tk ?_;refine call_all_walk (UJ pl.isList ?_);have up:∀b o,s.heap.get? b=u_ o->(s.heap.push {cls:= .type "list_iterator",data:= .fields #[.ref p,.int 0 0]}).get? b=u_ o:=λb o e=>ue _ e;have hl:its.length=bs.length:=by have:=rv.length;simpa using this.symm
 refine⟨s.heap.objs.size,_,_,_,_,_,λi=>bs.getD i v_,1,Walks.list (show X.A.in1.handled=UU from I.ok.hd hc) s.heap.objs.size p (uN aa) its.toArray,[⟨_,uE _ rfl,1,1⟩:pl.isList.push _],?_,?_⟩
 ·intro i v s' Q' E' hv hQ;have O:its[i]? =u_ v:=by simpa using hv
  have hi:i<its.length:=(Aa.mp O).1;obtain⟨u,e1,e2⟩:=rv.get (i:=i) (x:= .bl (bs[i]'())) (by simp [show i<bs.length by omega])
  rw [O] at e1;cases e1;cases e2;have:bs.getD i v_=bs[i]'():=by simp [Vz,show i<bs.length by omega]
  have U:Q' (bs.getD i v_) s':=hQ;rw [this] at U;exact vo U
 ·intro h' tk kk htk;have Z:(V4 its.toArray.size).all (λi=>bs.getD i v_)=bs.all id:=by
   rw [um,hl];exact all_range bs
  rw [Z];have I1:=I.kept (t':=s.toks) (h':=s.heap.push {cls:= .type "list_iterator",data:= .fields #[.ref p,.int 0 0]}) up;have ac:=I.fpOk (uh _) (I.hok.fresh (uh s.heap.objs.size));erw[ac,f0,f1,f2,f3,f4,f5];exact⟨.bl (bs.all id),H,I1.turned (it:=s.heap.objs.size) (λb o hb e=>kk b o (by simpa using hb) e) f0 f1 f3 f4 f5,1,q⟩
end
section
variable {X:Cx}
theorem kG {x:Str}{i:Int}{pos:Pos}(O:Gl X x)(hm:∃t,X.mg x=u_ (.int i t))(hd:(x==("__debug__":Str))=UV):PE X (.Name x pos) (tC (.int i)):=by
 erw[hm,t,hm];exact pe_glob O hm [t:1] hd
theorem pe_gS {x z:Str}{pos:Pos}(O:Gl X x)(hm:∃t,X.mg x=u_ (.str z t))(hd:(x==("__debug__":Str))=UV):PE X (.Name x pos) (tC (.str z)):=by
 erw[hm,t,hm];exact pe_glob O hm [t:1] hd
theorem pe_gR {x:Str}{a:o3}{pos:Pos}(O:Gl X x)(hm:X.mg x=u_ (.ref a))(hd:(x==("__debug__":Str))=UV):PE X (.Name x pos) (tC (.ref a)):=pe_glob O hm rfl hd
end
variable {H:Hp}{p:o3}
theorem qh (h:H p=UU)(o:HO):Same H (upd H p o):=λb u q=>by rw [qk (ql q h)];exact q
noncomputable def Kept (p:o3)(H H':Hp):Prop:=∀b o,H b=u_ o->b≠p->H' b=u_ o
theorem Kept.refl (p:o3)(H:Hp):Kept p H H:=λ_ _ h _=>h
variable {H1 H2:Hp}
theorem Kept.trans (a:Kept p H H1)(b:Kept p H1 H2):Kept p H H2:=λc o h n=>b c o (a c o h n) n
theorem Kept.upd (p:o3)(H:Hp)(o:HO):Kept p H (L2.upd H p o):=λb u h n=>by rw [qk n];exact h
variable {H':Hp}
theorem Kept.same (k:Kept p H1 H')(s:Same H H1)(n:H p=UU):Same H H':=λb o h=>k b o (s b o h) (ql h n)
variable {i:Int}
theorem Y1 {α:Type}{xs:oj α}(h0:0<=i)(h1:i<xs.length):∃c,atI xs i=u_ c:=by
 obtain⟨n,rfl⟩:∃n:Nat,i=(n:Int):=[i.toNat:()]
 have hn:n<xs.length:=by omega
 exact[xs[n]:Ql (ug hn)]
noncomputable def clOf (cells:oj (Str×o3)):oj (Str×Vt)->oj (Str×o3)->oj (Str×o3)
 | [],cs=>cs
 |(n,k)::r,cs=>clOf cells r (if k== .free then(match cells.lookup n with|some a=>(n,a)::cs|none=>cs) else cs)
theorem Km {cells:oj (Str×o3)}:∀{names:oj (Str×Vt)}{cs:oj (Str×o3)},(∀y c,cs.lookup y=u_ c->cells.lookup y=u_ c)->∀y c,(clOf cells names cs).lookup y=u_ c->cells.lookup y=u_ c
 | [],_,h=>h
 |(n,k)::r,cs,h=>by
  unfold clOf;refine Km λy c e=> ?_;split at e
  ·split at e
   ·rename_i a ha
    rw [vc] at e;split at e
    ·rename_i U
     have O:y=n:=beq_iff_eq.mp U;subst O;cases e;exact ha
    ·exact h y c e
   ·exact h y c e
  ·exact h y c e
theorem clOf_keep {cells:oj (Str×o3)}:∀{names:oj (Str×Vt)}{cs:oj (Str×o3)}{y:Str},(∃c,cs.lookup y=u_ c)->∃c,(clOf cells names cs).lookup y=u_ c
 | [],_,_,h=>h
 |(n,k)::r,cs,y,h=>by
  unfold clOf;refine clOf_keep ?_;split
  ·split
   ·rw [vc];split
    ·exact⟨0⟩
    ·exact h
   ·exact h
  ·exact h
theorem kP {cells:oj (Str×o3)}:∀{names:oj (Str×Vt)}{cs:oj (Str×o3)}{y:Str},(y,Vc)∈names->(∃c,cells.lookup y=u_ c)->∃c,(clOf cells names cs).lookup y=u_ c
 | [],_,_,h,_=>nomatch h
 |(n,k)::r,cs,y,h,O=>by
  unfold clOf;rcases A5.mp h with e|h
  ·cases e;refine clOf_keep ?_;erw[O,c,O];rw [A3 (),O]
   exact⟨c,by simp [vc]⟩
  ·exact kP h O
theorem XV {env:Env}:∀{names:oj (Str×Vt)}{cs:oj (Str×o3)},(∀y,(y,Vc)∈names->∃c,env.cells.lookup y=u_ c)->
  (VD names cs λx r=>(do
   if x.2== .free then
    let a<-GX env x.1
    pure (gW ((x.1,a)::r))
   else pure (gW r):Sem (ForInStep (oj (Str×o3)))))=(pure (clOf env.cells names cs):Sem (oj (Str×o3)))
 | [],cs,_=>rfl
 |(n,k)::r,cs,h=>by
  rw [Ui];have Z:∀y,(y,Vc)∈r->∃c,env.cells.lookup y=u_ c:=λy hy=>h y (uc _ hy);unfold clOf;by_cases O:(k==Vc)=v_
  ·have U:k= .free:=by simpa using O
   subst U;erw[h n uf,c,hc];have e:GX env n=pure c:=by unfold GX;rw [hc]
   simp only [O,UT,e,hc,HL];exact XV Z
  ·simp only [A2 O,HL];exact XV Z
theorem WH {scope:Vd}{env:Env}(h:∀y,(y,Vc)∈scope.names->∃c,env.cells.lookup y=u_ c):GH scope env=pure (clOf env.cells scope.names []):=by
 unfold GH;have q:=XV (cs:= []) h;show(VD scope.names ([]:oj (Str×o3)) (λx r=>(do
   if x.2== .free then
    let a<-GX env x.1
    pure (gW ((x.1,a)::r))
   else pure (gW r):Sem (ForInStep (oj (Str×o3)))))>>=λcs=>pure cs)=_
 rw [q,HL]
theorem zY {env:Env}(hf:env.scope.kind= .function):∀{names:oj (Str×Vt)}{x:Str},names.lookup x=u_ .free->env.kindOf x=u_ .cell->
  (names.map λ(n,k)=>if(k==Vc&&env.scope.kind== .function&&env.kindOf n==u_ .cell) then(n,VF) else(n,k)).lookup x=u_ .cell
 | [],_,h,_=>by simp at h
 |(n,k)::r,x,h,hc=>by
  have ih:= @zY env hf r x;show Vj x ((if(k==Vc&&env.scope.kind== .function&&env.kindOf n==u_ .cell)=v_ then(n,VF) else(n,k))::_)=_
  cases O:x==n with
  |true=>
   simp only [vc,O] at h;cases h;have Z:x=n:=beq_iff_eq.mp O;subst Z;rw [A3 (by rw [hf,hc];rfl)]
   simp [vc]
  |false=>
   simp only [vc,O] at h;by_cases U:(k==Vc&&env.scope.kind== .function&&env.kindOf n==u_ .cell)=v_
   ·rw [A3 U];simp only [vc,O];exact ih h hc
   ·rw [A2 U];simp only [vc,O];exact ih h hc
theorem wq {env:Env}:∀{names:oj (Str×Vt)}{x:Str},(∀y∈names,y.2≠ .cell)->
  ((names.map λ(n,k)=>if(k==Vc&&env.scope.kind== .function&&env.kindOf n==u_ .cell) then(n,VF) else(n,k)).lookup x=u_ .cell∨
   (names.map λ(n,k)=>if(k==Vc&&env.scope.kind== .function&&env.kindOf n==u_ .cell) then(n,VF) else(n,k)).lookup x=u_ .free)->(x,Vc)∈names
 | [],_,_,h=>by simp at h
 |(n,k)::r,x,hn,h=>by
  have ih:= @wq env r x (λy hy=>hn y (uc _ hy));have g:Vj x ((if(k==Vc&&env.scope.kind== .function&&env.kindOf n==u_ .cell)=v_ then(n,VF) else(n,k))::(r.map λ(n,k)=>if(k==Vc&&env.scope.kind== .function&&env.kindOf n==u_ .cell) then(n,VF) else(n,k)))=u_ .cell∨
   Vj x ((if(k==Vc&&env.scope.kind== .function&&env.kindOf n==u_ .cell)=v_ then(n,VF) else(n,k))::(r.map λ(n,k)=>if(k==Vc&&env.scope.kind== .function&&env.kindOf n==u_ .cell) then(n,VF) else(n,k)))=u_ .free:=h
  have aa:k≠ .cell:=hn (n,k) uf;by_cases Z:(k==Vc&&env.scope.kind== .function&&env.kindOf n==u_ .cell)=v_
  ·rw [A3 Z] at g;have hk:k= .free:=by
    rw [uw,uw] at Z
    simpa using Z.1.1
   subst hk;cases U:x==n with
   |true=>
    have O:x=n:=beq_iff_eq.mp U;subst O;exact uf
   |false=>
    simp only [vc,U] at g;exact uc _ (ih g)
  ·rw [A2 Z] at g;cases U:x==n with
   |true=>
    have O:x=n:=beq_iff_eq.mp U;subst O;simp only [vc,U] at g;rcases g with g|g
    ·exact absurd (uH g) aa
    ·rw [show k=Vc from uH g]
     exact uf
   |false=>
    simp only [vc,U] at g;exact uc _ (ih g)
noncomputable abbrev blk (X:Cx)(scope:Vd)(Nb:oj Str)(cl:oj (Str×o3))(C:o3)(s₀:o7)(H₀:Hp)(fp:oj o3)(pn:oj (o3×Obj)):Cx:=
 {X with N:=Nb,s₀:=s₀,H₀:=H₀,env:=Ho scope cl C X.env,outer:=X.stack,ex:=fp,fn:=λ_=>UV,pn:=pn,xe:=λ_ _=>False}
structure LcS (X:Cx)(scope:Vd)(Nb:oj Str)(nt:Nat)(fr:oj Nat):Prop where
 kind:scope.kind= .function
 cell:∀y∈scope.names,y.2≠ .cell
 names:∀y∈scope.names,y.2= .local->scope.names.lookup y.1=u_ .local
 free:∀y∈scope.names,y.2= .free->X.env.kindOf y.1=u_ .cell
 len:Nb.length=nt+fr.length
 fr:∀(k j:Nat) (x:Str),fr[k]? =u_ j->Nb[nt+k]? =u_ x->X.N[j]? =u_ x/\scope.names.lookup x=u_ .free
noncomputable def sigB (nt:Nat)(fr:oj Nat)(σ:St):St:=Fz nt UU++fr.map λj=>(σ[j]?).join
section
variable {pr:o9}{wo:og}{ar:oh}{RR:VX->o7->Prop}{st:o7}
noncomputable abbrev nb (pr:o9)(wo:og)(ar:oh)(en:Env)(RR:VX->o7->Prop):o6->o7->Prop:=notedBy (Va pr wo) ar en λx t=>RR (.error x) t
noncomputable abbrev tsts (en:Env)(cs:oj Expr):Sem Bool:=VD cs v_ λc b=>if b=v_ then do let y<-isTrue c en (eval c en);pure (gW y) else pure (gW b)
theorem compLoop_by {el tg Z:Expr}{cs:oj Expr}{sc:Vd}{ps:Pos}{O U:o6}{en:Env}(J:Nat->o7->Prop)
  (aa:∀k t,J k t->UW (Va pr wo) ar (VJ O) (λr t1=>match r with
   |none=>RR (.ok .next) t1
   |some v=>UW (Va pr wo) ar (GF tg O v) (λ_ t2=>UW (Va pr wo) ar (VH tg en v) (λ_ t3=>UW (Va pr wo) ar (tsts en cs) (λb t4=>
     if b=v_ then UW (Va pr wo) ar (eval el en) (λx t5=>UW (Va pr wo) ar (call (.builtin "list.append") [U,x]) (λ_ t6=>∃m,m<k/\J m t6) (nb pr wo ar en RR) t5) (nb pr wo ar en RR) t4
     else∃m,m<k/\J m t4) (nb pr wo ar en RR) t3) (nb pr wo ar en RR) t2) (nb pr wo ar en RR) t1) (nb pr wo ar en RR) t)
  (k:Nat) (h0:J k st):Vn (Va pr wo) ar (.compLoop (.ListComp el [⟨tg,Z,cs,(0)⟩] sc ps) 0 O U en) RR st:=by
 refine codeAny_loop rfl J (λk t hJ=> ?_) k h0;show UW _ ar ((compTurn (.ListComp el [⟨tg,Z,cs,(0)⟩] sc ps) 0 O U en).onRaise λx=>do noteFrame x en;theTreesLotGoes x) _ _ t
 rw [compTurn_list];refine wpAny_noted (A4 (GD (A4 (thn (aa k t hJ) λr t1 q1=> ?_))));cases r with
 |none=>exact uz q1
 |some v=>
  refine A4 (thn q1 λ_ t2 q2=>A4 (thn q2 λ_ t3 q3=>A4 (thn q3 λb t4 q4=> ?_)));cases b with
  |false=>exact uz [1:q4]
  |true=>exact A4 (A4 (thn q4 λx t5 q5=>A4 (thn q5 λ_ t6 q6=>uz (uz [1:q6]))))
end
noncomputable def PIfs (X:Cx)(ifs:oj Expr)(t:TT):Prop:=
 ∀(oq:oj (o3×Obj)) (s:o7) (σ:St) (H:Hp) (Q:Bool->Hp->Prop),Inv X oq σ H s->t σ H Q->UW #[X,X] X.A (tsts X.env ifs) (TP X oq σ Q) X.xe s
noncomputable def tYes:TT:=λ_ H Q=>Q v_ H
theorem yN {X:Cx}:PIfs X [] tYes:=λ_ _ _ H _ I h=>wpAny_tests_nil [H:I:h]
theorem pif_one {X:Cx}{c:Expr}{t:TT}(h:PT X c t):PIfs X [c] t:=λoq s σ H Q I O=>wpAny_tests_one (h oq s σ H Q I O)
noncomputable def lcGo (D:o3)(J:It)(g:TG)(tc:TT)(te:TE)(σb:St)(H1:Hp)(Q:VK):Prop:=
 ∃(n:Nat) (W:Nat->St->oj V->Hp->Prop),n<=UY/\W 0 σb [] (upd H1 D (.lst []))/\
  (∀i σ ys H,i<n->W i σ ys H->H D=u_ (.lst ys)->ys.length<=i->J.go i H/\∀x H',J.yld i H x H'->g x σ H' λσ2 H2=>tc σ2 H2 λb H3=>
   if b=v_ then te σ2 H3 λy H4=>H4 D=u_ (.lst ys)/\W (i+1) σ2 (ys++ [y]) (upd H4 D (.lst (ys++ [y]))) else H3 D=u_ (.lst ys)/\W (i+1) σ2 ys H3)/\
  ∀σ ys H,W n σ ys H->H D=u_ (.lst ys)->J.stop n H/\Q (.ref D) H
noncomputable def tLC (nt:Nat)(fr:oj Nat)(wi:TI)(g:TG)(tc:TT)(te:TE):TE:=λσ H Q=>wi σ H λJ H1=>∀D,H1 D=UU->lcGo D J g tc te (sigB nt fr σ) H1 Q
section
variable {X:Cx}{scope:Vd}{Nb:oj Str}{nt:Nat}{fr:oj Nat}
theorem inv_blk {oq:oj (o3×Obj)}{σ:St}{H:Hp}{s:o7}{fp:oj o3}{C:o3}{h4:o8}{tk:Nat}(S:LcS X scope Nb nt fr)(I:Inv X oq σ H s)(hC:C=s.heap.objs.size)
  (ag:h4.Ns C λ_=>UU) (U:∀b o,s.heap.get? b=u_ o->h4.get? b=u_ o) (hf:∀b∈fp,FpOk X oq H b) (ho:∀b∈fp,∃o,s.heap.get? b=u_ o) (ht:0<tk:=by ac_rfl):
  Inv (blk X scope Nb (clOf X.env.cells scope.names []) C s H fp (X.pn++oq)) [] (sigB nt fr σ) H {s with heap:=h4,toks:=tk}:=by
 subst hC;have sub:∀y c,(clOf X.env.cells scope.names []).lookup y=u_ c->X.env.cells.lookup y=u_ c:=Km λy c e=>by simp at e
 have Z:∀y,(y,Vc)∈scope.names->X.env.kindOf y=u_ .cell:=λy hy=>S.free _ hy rfl;have ad:∀b o,s.heap.get? b=u_ o->b≠s.heap.objs.size:=λb o e z=>by rw [z] at e;exact absurd (uD e) (vD _)
 have O:∀b,b≠X.env.locals->b∉X.fs->b∉frs X.stack:=λb h1 h2 z=>(A5.mp (I.stkSub b z)).elim h1 h2;refine⟨⟨I.ok.mod,S.kind,I.ok.glob,I.ok.blt,uh _,λx y c h1 h2=>I.ok.inj x y c (sub x c h1) (sub y c h2),λx hx=> ?_,λx c z=>(by cases z),I.ok.hd,I.ok.frames,.inl rfl,λb hb=> ?_,I.bs,uO I.ok.bsz I.sz,λb o e hb=> ?_,λb hb=> ?_,I.stack,I.stkFree⟩,1,I.bare,Un.kept U,[_:ag:λi x v e1 e2 e3=> ?_],λx c e=> ?_,I.hok.fresh (uh _),λx c e=>I.freeC x c (sub x c e),λp hp=> ?_,I.hok.kept U,?_,ht⟩
 ·have hm:=wq (env:=X.env) S.cell hx;exact kP hm (I.ok.has x (.inl (Z x hm)))
 ·erw[ho b hb,o,e];exact[ad b o e:λx c e'=>(hf b hb).2.2.2.2.1 x c (sub x c e')]
 ·rcases(hf b hb).2.2.2.1 with z|z
  ·exact I.ok.noex b o e z
  ·exact absurd (V7 (uD e) (uO I.ok.bsz z)) (vD _)
 ·exact O b (hf b hb).2.1 (hf b hb).2.2.1
 ·
  have hi:nt<=i:=by
   rcases Uv i nt with z|z
   ·unfold sigB at e2;rw [Ur (by simpa using z),Fy] at e2
    split at e2<;>cases e2
   ·exact z
  obtain⟨k,rfl⟩:∃k,i=nt+k:=[i-nt:()]
  unfold sigB at e2;rw [Uo (by simp)] at e2
  simp only [T6,Nat.add_sub_cancel_left,uF] at e2;cases ej:fr[k]? with
  |none=>rw [ej] at e2;cases e2
  |some j=>
   rw [ej] at e2;have aa:(σ[j]?).join=u_ v:=uH e2;have ae:σ[j]? =u_ (u_ v):=by
    cases q:σ[j]? with
    |none=>rw [q] at aa;cases aa
    |some z=>rw [q] at aa;exact congrArg u_ aa
   erw[S.fr k j x ej e1,n1,n2];have kx:X.env.kindOf x=u_ .cell:=Z x (vB n2);erw[I.loc,m,hn,hl];erw[hl j x v n1 ae (.inr (.inl kx)),u,r,l];refine[u:r:.inr [.inl (zY I.ok.kind n2 kx):?_]];rcases l with⟨z,_⟩|⟨_,c,ec,ac⟩
   ·rw [kx] at z;cases z
   ·erw[kP (cells:=X.env.cells) (cs:= []) (vB n2) [c:ec],c',af];have:=sub x c' af;rw [ec] at this;cases this;erw[ac,o,q,d];exact⟨c,af,o,U c o q,d⟩
 ·erw[I.cell x c (sub x c e),v,o,q,d];exact⟨v,o,U c o q,d⟩
 ·have ah:p∈X.pn++oq:=by simpa using hp
  erw[I.pin p ah,e,n,ne,nf,d];exact⟨U _ _ e,n,ad _ _ e,O _ ne nf,d⟩
 ·show(sigB nt fr σ).length=Nb.length;unfold sigB;rw [S.len];simp
theorem lc_core {tg aa al:Expr}{am:oj Expr}{wi:TI}{g:TG}{tc:TT}{te:TE}{pos:Pos}{R:o6->o3->VX->o7->Prop}{oq:oj (o3×Obj)}{s:o7}{σ:St}{H:Hp}{Q:VK}(S:LcS X scope Nb nt fr)(ao:X.calm=v_)(hi:PI X tg aa wi)
  (hg:∀cl C s₀ H₀ fp pn,PG (blk X scope Nb cl C s₀ H₀ fp pn) tg g) (hc:∀cl C s₀ H₀ fp pn,PIfs (blk X scope Nb cl C s₀ H₀ fp pn) am tc) (he:∀cl C s₀ H₀ fp pn,PE (blk X scope Nb cl C s₀ H₀ fp pn) al te)
  (I:Inv X oq σ H s) (h:tLC nt fr wi g tc te σ H Q)
  (hR:∀(D C:o3) (H':Hp) (s1:o7) (m:Str->om o6),Inv X oq σ H' s1->s1.heap.Ns C m->FpOk X oq H' C->Q (.ref D) H'->R (.ref D) C (.ok .next) s1):
  UW #[X,X] X.A (eval aa X.env) (λx s₁=>UW #[X,X] X.A (GP x) (λit s₂=>UW #[X,X] X.A (GM []) (λax s₃=>
   UW #[X,X] X.A (tR scope X.env.globals (clOf X.env.cells scope.names []) [] X.env.qual UU .none (u_ X.env)) (λag s₄=>
    Vn #[X,X] X.A (.compStart (.ListComp al [⟨tg,aa,am,(0)⟩] scope pos) 0 it ax {ag with scope:=relabel scope X.env}) (R ax ag.locals) s₄) X.xe s₃) X.xe s₂) X.xe s₁) X.xe s:=by
 refine thn (hi oq s σ H _ I h) λv s1 h1=>thn h1 λaS s2 h2=> ?_;erw[h2,it,fp,tn,J,H2,e,I2,T,ap,f2,q2];subst e;have ay:H2 s2.heap.objs.size=none:=I2.hok.fresh (uh _);erw[q2 _ ay,n,W,hn,w0,step,fin];generalize hD:s2.heap.objs.size=D at*;refine vj ?_;rw [hD];have I3:Inv X oq σ (upd H2 D (.lst [])) {s2 with heap:=s2.heap.push {cls:= .type "list",data:= .seq ([]:oj o6).toArray}}:=by
  have:=I2.lnew (ys:= []) (its:= []) (t':=s2.toks) .nil (uU _);rwa [hD] at this
 refine wpAny_newFunctionEnv S.cell (by intro y hy;simp at hy) (λh4 ad aq=> ?_) S.kind
 dsimp only at ad aq⊢;generalize aA:s2.heap.push {cls:= .type "list",dict:=UU,data:= .seq ([]:oj o6).toArray}=h3 at ad aq I3⊢;have hC:h3.objs.size=D+1:=by rw [<-aA,vk,hD]
 have ae:∀b o,h3.get? b=u_ o->h4.get? b=u_ o:=λb o e=>aq.extBut b o (uN (uD e)) (ue _ e);have Z:∀b o,s2.heap.get? b=u_ o->h3.get? b=u_ o:=λb o e=>by rw [<-aA];exact ue _ e
 have au:∀b∈fp,∃o,s2.heap.get? b=u_ o:=λb O=>let⟨o,e,_⟩:=T.obj _ _ ap b O;[o:e];have aG:∀b∈fp,b≠D:=λb O z=>by
  erw[au b O,o,e];have q:=uD e;rw [z,hD] at q;exact vD _ q
 have f3:∀b∈fp,FpOk X oq (upd H2 D (.lst [])) b:=λb O=>⟨by rw [qk (aG b O)];exact(f2 b O).1,(f2 b O).2⟩
 have IB:=inv_blk (C:=h3.objs.size) (h4:=h4) (tk:=s2.toks+([]:oj (Str×o6)).length) (fp:=fp) S I3 rfl ad ae f3 λb O=>let⟨o,e⟩:=au b O;[o:Z b o e];generalize U:blk X scope Nb (clOf X.env.cells scope.names []) h3.objs.size {s2 with heap:=h3} (upd H2 D (.lst [])) fp (X.pn++oq)=Xb at IB
 have gB:=hg (clOf X.env.cells scope.names []) h3.objs.size {s2 with heap:=h3} (upd H2 D (.lst [])) fp (X.pn++oq)
 have cB:=hc (clOf X.env.cells scope.names []) h3.objs.size {s2 with heap:=h3} (upd H2 D (.lst [])) fp (X.pn++oq)
 have eB:=he (clOf X.env.cells scope.names []) h3.objs.size {s2 with heap:=h3} (upd H2 D (.lst [])) fp (X.pn++oq)
 rw [U] at gB cB eB;have xP:Xb.prog=X.prog:=by rw [<-U]
 have xW:Xb.w=X.w:=by rw [<-U]
 have xK:Xb.K=X.K:=by rw [<-U]
 have xA:Xb.A=X.A:=by rw [<-U]
 have xC:Xb.calm=true:=by rwa [<-U]
 have xE:Xb.env=Ho scope (clOf X.env.cells scope.names []) h3.objs.size X.env:=by rw [<-U]
 have xX:Xb.xe=λ_ _=>False:=by rw [<-U]
 have af:∀{H':Hp},(∀b∈fp,H' b=UU)->∀b∈fp,FpOk Xb [] H' b:=λhn b O=>by
  erw[f2 b O,g1,g2,g3,g4,g5,g6];erw[au b O,o,e];subst U;refine⟨hn b O,λz=> ?_,λz=>(A5.mp (I2.stkSub b z)).elim g2 g3,.inl O,λx c ec=>g5 x c (Km (λy c e=>by simp at e) x c ec),λp hp=>g6 p (by simpa using hp)⟩
  have ac:=uD (Z b o e);have z':b=h3.objs.size:=z;rw [z'] at ac;exact vD _ ac
 have ah:∀s5:o7,s5={s2 with heap:=h4,toks:=s2.toks+([]:oj (Str×o6)).length}->
   Vn #[X,X] X.A (.compLoop (.ListComp al [⟨tg,aa,am,(0)⟩] scope pos) 0 (.ref it) (.ref D) (Ho scope (clOf X.env.cells scope.names []) h3.objs.size X.env))
    (R (.ref D) h3.objs.size) s5:=by
  rintro s5 rfl;refine compLoop_by (λk s'=>∃i σ' ys H',Inv Xb [] σ' H' s'/\tn i s'.heap/\(∀b∈fp,H' b=UU)/\H' D=u_ (.lst ys)/\i<=n/\k=n-i/\ys.length<=i/\W i σ' ys H') ?_ n
   ⟨(0),sigB nt fr σ,[],_,IB,T.keep _ _ _ ap λb O o e=>ae b o (Z b o e),λb O=>(f3 b O).1,qi,uU _,1,uh _,w0⟩
  rintro k s' ⟨i,σ',ys,H',I',aB,aC,aD,aH,rfl,aI,w'⟩;rcases Uv i n with ac|aJ
  ·erw[step i σ' ys H' ac w' aD aI,go,next];have ti:=T.item Xb xP xW xK xC i [] s' σ' H' (λ_ _=>False) I' (af aC) aB go;rw [xA] at ti;refine vG ti (λr s1 h1=> ?_) λ_ _ z=>z.elim;erw[h1,u,rfl,h1];refine vG h1 (λ_ aE aK=> ?_) λ_ _ z=>z.elim;erw[aK,x,H5,I5,r5,y5,aw,aL];have aM:=I5.pinned (af aL) (T.obj _ _ aw);have ga:=gB _ aE σ' H5 x u _ aM r5 (next x H5 y5);rw [xP,xW,xA,xE,xX] at ga;refine vG ga (λ_ s3 aN=> ?_) λ_ _ z=>z.elim;erw[aN,σ6,H6,I6,q6];have ca:=cB _ s3 σ6 H6 _ I6 q6;rw [xP,xW,xA,xE,xX] at ca;refine vG ca (λok s4 aO=> ?_) λ_ _ z=>z.elim;erw[aO,H7,I7,q7];have ak:∀{σ8:St}{H8:Hp}{s8:o7},Inv Xb ([]++pinsAt fp aE.heap) σ8 H8 s8->Inv Xb [] σ8 H8 s8/\tn (i+1) s8.heap/\∀b∈fp,H8 b=none:=λ{σ8 H8 s8} I8=>by
    refine[I8.unpinned:T.keep _ _ _ aw λb O o e=>(I8.pin (b,o) (uI _ (uI _ (JT O e)))).1:λb O=> ?_];erw[T.obj _ _ aw b O,o,e,d];exact(I8.pin (b,o) (uI _ (uI _ (JT O e)))).2.1
   cases ok with
   |false=>
    rw [A2 u9] at q7⊢;erw[ak I7,b1,b2,b3];exact⟨n-(i+1),(),i+1,σ6,ys,H7,b1,b2,b3,q7.1,ac,1,(),q7.2⟩
   |true=>
    rw [A3 rfl] at q7⊢;have ea:=eB _ s4 σ6 H7 _ I7 q7;rw [xP,xW,xA,xE,xX] at ea;refine vG ea (λy s5 h5=> ?_) λ_ _ z=>z.elim;erw[h5,yv,H8,I8,r8,aP,q8];have ma:=Yc (X:=Xb) _ s5 σ6 H8 (.ref D) [yv] (.ref D) [y] (λ_ H9=>H9=upd H8 D (.lst (ys++ [yv]))) I8 rfl (.cons r8 .nil) ⟨D,ys,yv,1,1,aP,(),1⟩
    rw [xP,xW,xA,xX] at ma;refine vG ma (λ_ s6 h6=> ?_) λ_ _ z=>z.elim;erw[h6,_,H9,I9,_,rfl];erw[ak I9,b1,b2,b3];exact⟨n-(i+1),(),i+1,σ6,ys++ [yv],_,b1,b2,b3,qi,ac,1,by rw [uu,uV];omega,q8⟩
  ·have aF:i=n:=Nat.le_antisymm aH aJ;subst aF;erw[fin σ' ys H' w' aD,stop,hq];have td:=T.done Xb xP xW xK xC i [] s' σ' H' (λ_ _=>False) I' (af aC) aB stop;rw [xA] at td;refine vG td (λr s1 h1=> ?_) λ_ _ z=>z.elim;erw[h1,rfl,I6];erw[id I6.loc,m,hm,_];rw [xE] at hm;have aQ:H' h3.objs.size=none:=by have:=I6.free;rwa [xE] at this
   have u6:Un (frs X.stack) fp (upd H2 D (.lst [])) H' h3 s1.heap:=by have:=I6.base;subst U;exact this
   have u2:Un (frs X.stack) fp H2 (upd H2 D (.lst [])) s2.heap h3:=Un.laid (λb o e=>Z b o e) (by rw [hD];exact uh _) ay
   have aR:s1.os=s2.os:=by have:=I6.os;subst U;exact this
   have hok:HOk X.prog X.w H' s1.heap:=by
    have:=I6.hok;subst U;exact this
   refine hR D h3.objs.size H' s1 m (I2.call' (s':=s1) (ch:=fp) aR (u2.trans u6) hok I6.bare λb O=> ?_) hm (I2.fpOk () aQ) hq
   erw[f2 b O,g1,g2,g3,g4,g5,g6];exact⟨g4,g2,g5,g6⟩
 exact codeAny_compStart_list (ah _ rfl) (T.self _ 0 _ _ _ (T.keep _ _ _ ap λb O o e=>ae b o (Z b o e)) (ah _ rfl))
theorem zw {tg O aa:Expr}{ac:oj Expr}{wi:TI}{g:TG}{tc:TT}{te:TE}{pos:Pos}(S:LcS X scope Nb nt fr)(U:X.calm=v_)(hi:PI X tg O wi)
  (hg:∀cl C s₀ H₀ fp pn,PG (blk X scope Nb cl C s₀ H₀ fp pn) tg g) (hc:∀cl C s₀ H₀ fp pn,PIfs (blk X scope Nb cl C s₀ H₀ fp pn) ac tc) (he:∀cl C s₀ H₀ fp pn,PE (blk X scope Nb cl C s₀ H₀ fp pn) aa te)
  (hs:∀x,HS O X.env x=pure x):PE X (.ListComp aa [⟨tg,O,ac,(0)⟩] scope pos) (tLC nt fr wi g tc te):=by
 intro oq s σ H Q I h;have Z:GH scope X.env=pure (clOf X.env.cells scope.names []):=WH λy hy=>I.ok.has y (.inl (S.free _ hy rfl));rw [eval_ListComp];refine Tf (use:=UU) rfl hs Z S.kind S.names ?_;refine lc_core (R:=λad C=>compPost #[X,X] X.A X.xe UU (EP X oq σ Q) ad C) S U hi hg hc he I h λD C H' s1 m I1 hm fc q=> ?_;erw[fc,f0,f1,f2,f3,f4,f5];exact[m:hm:λh' ae=>⟨.ref D,H',I1.turned (t':=s1.toks) (it:=C) (λb o hb e=>(ae.2 b hb).trans e) f0 f1 f3 f4 f5,1,q⟩]
theorem ps_setLC {i:Nat}{y:Str}{tg O U:Expr}{Z:oj Expr}{wi:TI}{g:TG}{tc:TT}{te:TE}{pos aa py:Pos}(hN:X.N.Nodup)(ae:X.N[i]? =u_ y)(hy:Loc X.env.scope y)(S:LcS X scope Nb nt fr)(ac:X.calm=v_)(hi:PI X tg O wi)
  (hg:∀cl C s₀ H₀ fp pn,PG (blk X scope Nb cl C s₀ H₀ fp pn) tg g) (hc:∀cl C s₀ H₀ fp pn,PIfs (blk X scope Nb cl C s₀ H₀ fp pn) Z tc) (he:∀cl C s₀ H₀ fp pn,PE (blk X scope Nb cl C s₀ H₀ fp pn) U te)
  (hs:∀x,HS O X.env x=pure x) (af:Gy (.ListComp U [⟨tg,O,Z,(0)⟩] scope pos) (u_ (.Name y py)) aa.line X.env=pure v_)
  (hf:X.fn y=v_∨X.env.scope.names.lookup y=u_ .local):
  PS X (.Assign [.Name y py] (.ListComp U [⟨tg,O,Z,(0)⟩] scope pos) aa) (tAsg (tLC nt fr wi g tc te) (jt i)):=by
 intro oq s σ H D I h;have ad:GH scope X.env=pure (clOf X.env.cells scope.names []):=WH λy hy=>I.ok.has y (.inl (S.free _ hy rfl));rw [exec_Assign_Name_used _ _ _ _ af];refine A4 (GD (A4 ?_));show UW _ X.A (do let _<-comprehension (.ListComp U [⟨tg,O,Z,(0)⟩] scope pos) scope X.env _ (GM []) UV (eval O X.env) (u_ (VH (.Name y py) X.env))) _ _ s
 refine A4 (vG (Tf (use:=u_ (VH (.Name y py) X.env)) (Q:=λ_ s'=>SP X oq D .next s') rfl hs ad S.kind S.names ?_) (λ_ s' hq=>uz (uz hq)) λ_ _ e=>e);refine lc_core (R:=λag C=>compPost #[X,X] X.A X.xe (u_ (VH (.Name y py) X.env)) (λ_ s'=>SP X oq D .next s') ag C) S ac hi hg hc he I h λA C H' s1 m I1 hm fc q=> ?_;erw[fc,f0,f1,f2,f3,f4,f5];show UW _ X.A (VH (.Name y py) X.env (.ref A)) _ _ s1;refine Ra (store_ok2 (v:= .ref A) I1 hN ae hy (show RelV (.ref A) (.ref A) from rfl) (λs' I' zq=> ?_) hf);erw[zq,a,sb,ha]
 have ah:C≠a:=by
  rcases ha with rfl|ha
  ·exact f1
  ·exact λz=>f4 y a ha z.symm
 refine[m:hm.sameBut sb ah:λh' ak=>⟨_,H',I'.turned (t':=s'.toks) (it:=C) (λb o hb e=>(ak.2 b hb).trans e) f0 f1 f3 f4 f5,q⟩]
end
theorem lcs0 {X:Cx}{sc:Vd}{x:Str}(O:sc.kind= .function:=by rfl)(U:∀y∈sc.names,y.2≠ .cell:=by decide+kernel)(hn:∀y∈sc.names,y.2= .local->sc.names.lookup y.1=u_ .local:=by decide+kernel)
  (Z:∀y∈sc.names,y.2≠ .free:=by decide+kernel):LcS X sc [x] 1 []:=⟨O,U,hn,λy hy e=>absurd e (Z y hy),1,λk j x h=>by simp at h⟩
theorem lcsN {X:Cx}{sc:Vd}{Nb:oj Str}{nt:Nat}{fr:oj Nat}(O:Vd)(U:oj Str)(Z:X.env.scope=O:=by rfl)(hN:X.N=U:=by rfl)(hk:sc.kind= .function:=by rfl)(hc:∀y∈sc.names,y.2≠ .cell:=by decide+kernel)
  (hn:∀y∈sc.names,y.2= .local->sc.names.lookup y.1=u_ .local:=by decide+kernel) (hf:∀y∈sc.names,y.2= .free->O.names.lookup y.1=u_ .cell:=by decide+kernel) (hl:Nb.length=nt+fr.length:=by rfl)
  (hz:((fr.zip (Nb.drop nt)).all λp=>decide (U[p.1]? =u_ p.2)&&decide (sc.names.lookup p.2=u_ .free))=true:=by decide+kernel):LcS X sc Nb nt fr:=by
 subst Z hN;refine⟨hk,hc,hn,hf,hl,λk j x h1 h2=> ?_⟩;have hm:(fr.zip (Nb.drop nt))[k]? =u_ (j,x):=by
  rw [List.getElem?_zip_eq_some];exact⟨h1,by rwa [List.getElem?_drop]⟩
 have q:=List.all_eq_true.mp hz _ (v5 hm);rw [uw] at q;exact[uj q.1:uj q.2]
theorem lc_str {z:Str}{D:o3}{H1:Hp}{te:TE}{tl:St}{Q:VK}(f:Nat->V)(hz:z.length<=UY)(Z:H1 D=UU)
  (O:∀(i c:Nat) H (R:VK),z.cps[i]? =u_ c->Same H1 H->R (f c) H->te (u_ (.str ⟨#[c]⟩)::tl) H R)
  (hQ:∀H',Same H1 H'->H' D=u_ (.lst (z.cps.toList.map f))->Q (.ref D) H'):lcGo D (Its z) (jt 0) tYes te (UU::tl) H1 Q:=by
 refine⟨z.cps.size,λi σ ys H=>(∃w,σ=w::tl)/\ys=(z.cps.toList.take i).map f/\Same H1 H,hz,[[UU:1]:1:qh Z _],?_,?_⟩
 ·rintro i σ ys H hi ⟨⟨w,rfl⟩,rfl,sm⟩ U hy;exists hi;rintro x H' ⟨rfl,c,hc,rfl⟩;dsimp only [jt,tYes,gY];rw [A3 rfl];refine O i c H' _ hc sm ⟨U,[u_ (.str ⟨#[c]⟩):1],?_,?_⟩
  ·rw [vq,show z.cps.toList[i]? =u_ c by simpa using hc]
   simp
  ·intro b o e;rw [qk (ql e Z)];exact sm b o e
 ·rintro σ ys H ⟨_,rfl,sm⟩ U;refine[1:hQ H sm ?_];rw [U,uZ (by simp)]
mutual
noncomputable def Is (H:Hp):D->V->Prop
 | .non,v=>v= .non
 | .bl b,v=>v= .bl b
 | .int i,v=>v= .int i
 | .str z,v=>v= .str z/\z.length<=UY
 | .lst,v=>∃a xs,v= .ref a/\H a=u_ (.lst xs)
 | .dct,v=>∃a kvs,v= .ref a/\H a=u_ (.dK kvs)
 | .tup xs,v=>∃a vs,v= .ref a/\H a=u_ (.tup vs)/\IsL H xs vs
noncomputable def IsL (H:Hp):oj D->oj V->Prop
 | [],vs=>vs= []
 |x::xs,vs=>∃v r,vs=v::r/\Is H x v/\IsL H xs r
end
structure Tk (H H':Hp):Prop where
 tup:∀b xs,H b=u_ (.tup xs)->H' b=u_ (.tup xs)
 lst:∀b xs,H b=u_ (.lst xs)->∃ys,H' b=u_ (.lst ys)
 dct:∀b xs,H b=u_ (.dK xs)->∃ys,H' b=u_ (.dK ys)
theorem Same.tk (s:Same H H'):Tk H H':=[λb xs e=>s b _ e:λb xs e=>[xs:s b _ e]:λb xs e=>[xs:s b _ e]]
theorem Tk.refl (H:Hp):Tk H H:=(Same.refl H).tk
theorem Tk.trans (a:Tk H H1)(b:Tk H1 H2):Tk H H2:=⟨λc xs e=>b.tup c xs (a.tup c xs e),λc xs e=>let⟨ys,e1⟩:=a.lst c xs e;b.lst c ys e1,λc xs e=>let⟨ys,e1⟩:=a.dct c xs e;b.dct c ys e1⟩
variable {xs ys:oj V}
theorem Kept.tk (k:Kept p H H')(h:H p=u_ (.lst xs))(h':H' p=u_ (.lst ys)):Tk H H':=by
 refine[λb zs e=>k b _ e λz=> ?_:λb zs e=> ?_:λb zs e=>[zs:k b _ e λz=> ?_]]
 ·rw [z,h] at e;cases e
 ·by_cases z:b=p
  ·exact[ys:z▸h']
  ·exact[zs:k b _ e z]
 ·rw [z,h] at e;cases e
mutual
theorem Is.mono {H H':Hp}(t:Tk H H'):∀{d:D}{v:V},Is H d v->Is H' d v
 | .non,_,h=>h
 | .bl _,_,h=>h
 | .int _,_,h=>h
 | .str _,_,h=>h
 | .lst,_,h=>by
  erw[h,a,vs,e,ha];erw[t.lst a vs ha,ys,q];exact⟨a,ys,e,q⟩
 | .dct,_,h=>by
  erw[h,a,vs,e,ha];erw[t.dct a vs ha,ys,q];exact⟨a,ys,e,q⟩
 | .tup xs,_,h=>by
  erw[h,a,vs,e,ha,O];exact⟨a,vs,e,t.tup a vs ha,IsL.mono t O⟩
theorem IsL.mono {H H':Hp}(t:Tk H H'):∀{ds:oj D}{vs:oj V},IsL H ds vs->IsL H' ds vs
 | [],_,h=>h
 |_::_,_,h=>by
  erw[h,v,r,e,h1,h2];exact⟨v,r,e,Is.mono t h1,IsL.mono t h2⟩
end
theorem IsL.length {H:Hp}:∀{ds:oj D}{vs:oj V},IsL H ds vs->vs.length=ds.length
 | [],_,h=>by cases(show _= [] from h);rfl
 |_::_,_,h=>by
  erw[h,v,r,rfl,_,h2];rw [ui,ui,IsL.length h2]
theorem IsL.get {H:Hp}:∀{ds:oj D}{vs:oj V}{i:Nat}{d:D},IsL H ds vs->ds[i]? =u_ d->∃v,vs[i]? =u_ v/\Is H d v
 | [],_,_,_,_,e=>by simp at e
 |x::_,_,0,d,h,e=>by
  erw[h,v,r,rfl,h1,_];have:x=d:=by simpa using e
  exact[v:1:this▸h1]
 |_::_,_,i+1,d,h,e=>by
  erw[h,v,r,rfl,_,h2];obtain⟨u,O,U⟩:=IsL.get (i:=i) (d:=d) h2 (by simpa using e)
  exact⟨u,by simpa using O,U⟩
theorem IsL.append {H:Hp}:∀{ds es:oj D}{vs us:oj V},IsL H ds vs->IsL H es us->IsL H (ds++es) (vs++us)
 | [],_,_,_,h,k=>by cases(show _= [] from h);exact k
 |_::_,_,_,_,h,k=>by
  erw[h,v,r,rfl,h1,h2];exact⟨v,0,h1,IsL.append h2 k⟩
variable {v:V}
theorem IsL.one {d:D}(h:Is H d v):IsL H [d] [v]:=⟨v,[],1,h,1⟩
variable {ds:oj D}
theorem Is.new {vs:oj V}(h:IsL H ds vs)(O:H p=UU):Is (upd H p (.tup vs)) (.tup ds) (.ref p):=
 ⟨p,vs,1,qi,h.mono (qh O _).tk⟩
noncomputable def tyD:D->o6
 | .non=> .type "NoneType"
 | .bl _=> .type "bool"
 | .int _=> .type "int"
 | .str _=> .type "str"
 | .lst=> .type "list"
 | .dct=> .type "dict"
 | .tup _=> .type "tuple"
theorem Is.ty {d:D}(h:Is H d v):TyOf K H v (tyD d):=by
 cases d with
 |non=>cases(show v= .non from h);exact .non
 |bl b=>cases(show v= .bl b from h);exact .bl b
 |int i=>cases(show v= .int i from h);exact .int i
 |str z=>
  erw[h,rfl,_];exact .str z
 |lst=>
  erw[h,a,vs,rfl,ha];exact .lst ha
 |dct=>
  erw[h,a,vs,rfl,ha];exact .dK ha
 |tup xs=>
  erw[h,a,vs,rfl,ha,_];exact .tup ha
section
variable {X:Cx}
theorem op_gt_str:OpR X (V6 .Gt) (λx y H Q=>∃i j,x= .str i/\y= .str j/\Q (.bl (decide (j.cps.toList<i.cps.toList))) H):=by
 intro oq s σ H x y v u Q I O U h;erw[h,i,j,rfl,rfl,q];erw[O,t,rfl];erw[U,t',rfl];exact PySem.P.gt_str (Qi I q rfl)
theorem call_sumL (Z:X.calm=v_):Yx X (.builtin "sum") (λxs H Q=>∃(p:o3) (ns:oj Int),xs= [.ref p]/\SqL X.K H p (ns.map V.int)/\Q (.int ns.sum) H):=by
 intro oq s σ H xs us Q I r h;erw[h,p,ns,rfl,hp,q];erw[xw r,u,rfl,ru];cases ru;erw[I.list hp,its,rv,pl,hz];have hi:gN its ns:=intsAre_of rv;erw[hi.allInts.items,ys,U];have O:s.heap.IsList p (intItems ys):=U▸pl.isList;refine uX (n:=1) I.tk (sum_intListG (I.ok.hd Z) O λh' tk t' hk=> ?_);intro htk;have e1:ns=ys.toList.map (·.1):=by
  have q1:=hi.numsOf;rw [<-nums_intItems,<-U];exact(show numsOf its.toArray.toList=ns from q1).symm
 have e2:preSum (numAt ys) ys.size=ns.sum:=by
  rw [preSum_eq,uZ (by simp),e1]
 rw [e2];exact⟨.int ns.sum,H,I.kept hk,[t':1],q⟩
inductive rCatG (K:PySem.W.Frag) (x:V) (y:V) (H:Hp) (Q:VK):Prop
 |mk (a:_) (b:_) (xs:_) (ys:_) (_:x= .ref a) (_:y= .ref b) (_:SqT K H a xs) (_:SqT K H b ys) (_:xs.length+ys.length<=UY) (_:(xs= []->Q (.ref b) H)) (_:(xs≠ []->ys= []->Q (.ref a) H)) (_:(xs≠ []->ys≠ []->∀p,H p=UU->Q (.ref p) (upd H p (.tup (xs++ys)))))
theorem kC:OpR X (Vo .Add) (rCatG X.K):=by
 intro oq s σ H x y v u Q I U Z h;erw[h,a,b,xs,ys,rfl,rfl,ha,hb,hz,q0,q1,q2];by_cases O:xs= []
 ·cases U;cases Z;erw[I.tuple ha,its,r1,p1,_];erw[I.tuple hb,aa,r2,p2,_];subst O;cases r1;erw[id p1,[c1,d1,t1,l1],o1,e1,n1,f1];erw[id p2,[c2,d2,t2,l2],o2,e2,n2,f2];simp only at e1 f1 e2 f2;subst e1 f1 e2 f2;exact T5 p1.typeIs p2.typeIs tW tF PySem.F.slot_tuple_add UB (Uu _ _) (tuple_addW0 a b _ _ n1 n2 d1 d2 l1 l2 rfl) [o1:o2:⟨.ref b,H,I,1,q0 rfl⟩]
 ·exact op_catT oq s σ H (.ref a) (.ref b) v u Q I U Z ⟨a,b,xs,ys,1,1,ha,hb,O,hz,q1 O,q2 O⟩
end
theorem Tk.updL (h:H p=u_ (.lst xs)):Tk H (upd H p (.lst ys)):=by
 refine[λb zs e=> ?_:λb zs e=> ?_:λb zs e=>[zs:?_]]
 ·rw [qk (λz=>by rw [z,h] at e;cases e)];exact e
 ·by_cases z:b=p
  ·exact⟨ys,by rw [z];exact qi⟩
  ·exact⟨zs,by rwa [qk z]⟩
 ·rw [qk (λz=>by rw [z,h] at e;cases e)];exact e
theorem lc_data {J:It}{A:o3}{H1:Hp}{te:TE}{tl:St}{Q:VK}{ds:oj D}(f:D->D)(hn:ds.length<=UY)(hA:H1 A=UU)
  (aa:∀i H,Same H1 H->i<ds.length->J.go i H) (hy:∀i H x H' d,Same H1 H->ds[i]? =u_ d->J.yld i H x H'->H'=H/\Is H d x) (U:∀H,Same H1 H->J.stop ds.length H)
  (ac:∀d x H (R:VK),d∈ds->Same H1 H->Is H d x->(∀y H',Same H H'->Is H' (f d) y->R y H')->te (u_ x::tl) H R)
  (hQ:∀H' ys,Same H1 H'->H' A=u_ (.lst ys)->IsL H' (ds.map f) ys->Q (.ref A) H'):lcGo A J (jt 0) tYes te (UU::tl) H1 Q:=by
 refine⟨ds.length,λi σ ys H=>(∃w,σ=w::tl)/\IsL H ((ds.take i).map f) ys/\Same H1 H,hn,[[UU:1]:1:qh hA _],?_,?_⟩
 ·rintro i σ ys H hi ⟨⟨w,rfl⟩,Z,sm⟩ O ae;refine[aa i H sm hi:λx H' y=> ?_];erw[hy i H x H' ds[i] sm (ug hi) y,rfl,hx];dsimp only [jt,tYes,gY];rw [A3 rfl];refine ac ds[i] x H' _ (uQ hi) sm hx λy' H4 s4 ad=>⟨s4 _ _ O,[u_ x:1],?_,λb o e=> ?_⟩
  ·have t:Tk H4 (upd H4 A (.lst (ys++ [y']))):=Tk.updL (s4 _ _ O);have e:(ds.take (i+1)).map f=(ds.take i).map f++ [f ds[i]]:=by
    rw [vq,ug hi,ur]
    rfl
   rw [e];exact((Z.mono s4.tk).mono t).append (IsL.one (ad.mono t))
  ·rw [qk (ql e hA)];exact s4 b o (sm b o e)
 ·rintro σ ys H ⟨_,Z,sm⟩ O;refine[U H sm:hQ H ys sm O ?_];rwa [uZ (uh _)] at Z
theorem lc_tupS {K:o0}{a A:o3}{H1:Hp}{te:TE}{tl:St}{Q:VK}{ds:oj D}{vs:oj V}(f:D->D)(ha:H1 a=u_ (.tup vs))(U:IsL H1 ds vs)(hn:ds.length<=UY)(hA:H1 A=UU)
  (O:∀d x H (R:VK),d∈ds->Same H1 H->Is H d x->(∀y H',Same H H'->Is H' (f d) y->R y H')->te (u_ x::tl) H R)
  (hQ:∀H' ys,Same H1 H'->H' A=u_ (.lst ys)->IsL H' (ds.map f) ys->Q (.ref A) H'):lcGo A (Itt K a) (jt 0) tYes te (UU::tl) H1 Q:=by
 have ln:=U.length;refine lc_data f hn hA (λi H sm hi=>⟨vs,vs[i]'(),SqT.of (sm _ _ ha),ug _⟩) (λi H x H' d sm hd y=> ?_) (λH sm=>[vs:SqT.of (sm _ _ ha):()]) O hQ
 erw[y,rfl,y];erw[U.get hd,v,e1,e2];have Z:=y vs (SqT.of (sm _ _ ha));rw [e1] at Z;cases Z;exact[1:e2.mono sm.tk]
theorem IsL.bls {H:Hp}:∀{bs:oj Bool}{vs:oj V},IsL H (bs.map D.bl) vs->vs=bs.map V.bl
 | [],_,h=>h
 |_::_,_,h=>by
  erw[h,v,r,rfl,h1,h2];rw [IsL.bls h2,show v=_ from h1];rfl
variable {Q:VK}
theorem xS {d:D}(h:Is H (.tup ds) v)(hi:atI ds i=u_ d)(q:∀x,Is H d x->Q x H):rIxT K v (.int i) H Q:=by
 erw[h,a,vs,rfl,ha,O];erw[kr hi,j,h1,h2,h3,h4,h5];erw[O.get h2,x,Z,e2];refine⟨a,vs,i,x,1,1,SqT.of ha,?_,q x e2⟩;have ln:=O.length;unfold atI at hi⊢;rw [ln];cases e:ixN ds.length i with
 |none=>rw [e] at hi;cases hi
 |some k=>
  rw [e] at hi;erw[ixN_seq e,U,_];rw [h1] at U;cases U;exact Z
noncomputable def inS (i j:Str):Bool:= !(Gn j i 0 j.length 1).isEmpty
theorem inS_one (j:Str)(c:Nat):inS ⟨#[c]⟩ j=decide (c∈j.cps.toList):=StrLaws.found_one j c
theorem for_str {z:Str}{g:TG}{tb:TS}{E:Ends}{σ:St}{H:Hp}(O:Nat->St->Hp->Prop)(h0:O 0 σ H)
  (hs:∀(i c:Nat) σ H,z.cps[i]? =u_ c->O i σ H->g (.str ⟨#[c]⟩) σ H λZ H2=>tb {E with nx:=O (i+1),ct:=O (i+1),bk:=E.nx} Z H2) (hd:∀σ H,O z.cps.size σ H->E.nx σ H):
  ∃W:Nat->Nat->St->Hp->Prop,(∃m,W 0 m σ H)/\∀i m σ H,W i m σ H->
   ((Its z).stop i H/\E.nx σ H)∨((Its z).go i H/\∃N:St->Hp->Prop,(∀σ' H',N σ' H'->∃m',m'<m/\W (i+1) m' σ' H')/\∀x H',(Its z).yld i H x H'->g x σ H' λZ H2=>tb {E with nx:=N,ct:=N,bk:=E.nx} Z H2):=by
 exists λi m σ H=>m=z.cps.size-i/\i<=z.cps.size/\O i σ H,⟨z.cps.size,by simp,uU _,h0⟩
 rintro i m σ H ⟨rfl,hi,p⟩;by_cases U:i<z.cps.size
 ·refine .inr ⟨U,O (i+1),λσ' H' p'=>⟨z.cps.size-(i+1),(),1,U,p'⟩,λx H' y=> ?_⟩
  erw[y,rfl,c,hc,rfl];exact hs i c σ _ hc p
 ·have e:i=z.cps.size:=by omega
  exact .inl [e:hd σ H (e▸p)]
theorem IsL.unsnoc {H:Hp}:∀{ds:oj D}{d:D}{vs:oj V},IsL H (ds++ [d]) vs->∃us x,vs=us++ [x]/\IsL H ds us/\Is H d x
 | [],d,_,h=>by
  erw[h,v,r,rfl,h1,h2];cases(show r= [] from h2)
  exact⟨[],v,1,1,h1⟩
 |e::r,d,_,h=>by
  erw[h,v,q,rfl,h1,h2];erw[IsL.unsnoc h2,us,x,rfl,h3,h4];exact⟨v::us,x,1,⟨v,us,1,h1,h3⟩,h4⟩
noncomputable def isStr:D->Bool
 | .str _=>v_
 |_=>UV
noncomputable def zd:D->Bool
 | .tup _=>v_
 |_=>UV
section
variable {K:o0}
theorem kit_no {T U:String}{b:Bool}(h:(VY T==VY U)=UV)(hm:PySem.W.kitMeta U=v_)(O:(fastBuiltinMro T).map (·.contains (VY U))=u_ b):PySem.W.kitOne K (.type T) (.type U)=u_ b:=by
 unfold PySem.W.kitOne;rw [A2 (by rw [h];exact u9)]
 show(if PySem.W.kitMeta U=v_ then PySem.W.subIn K (.type T) (.type U) else UU)=u_ b
 rw [A3 hm];exact O
theorem kit_self {T:String}(h:(VY T==VY T)=v_):PySem.W.kitOne K (.type T) (.type T)=u_ true:=by
 unfold PySem.W.kitOne;rw [A3 h]
theorem jw (d:D):PySem.W.kitOne K (tyD d) (.type "str")=u_ (isStr d):=by
 cases d with
 |str z=>exact kit_self ()
 |_=>exact kit_no (b:=UV) () () ()
theorem xU (d:D):PySem.W.kitOne K (tyD d) (.type "tuple")=u_ (zd d):=by
 cases d with
 |tup z=>exact kit_self ()
 |_=>exact kit_no (b:=UV) () () ()
end
theorem lt_one (c k:Nat):decide ((⟨#[c]⟩:Str).cps.toList< [k])=decide (c<k):=by
 rw [uW];simp [Tv]
theorem one_gt (c k:Nat):decide ([k]<(⟨#[c]⟩:Str).cps.toList)=decide (k<c):=by
 rw [uW];simp [Tv]
theorem ix_tupK {X:Cx}{K:o0}(h:X.K=K):IxR X (rIxT K):=by subst h;exact qP
theorem ix_listK {X:Cx}{K:o0}(h:X.K=K):IxR X (rIxL K):=by subst h;exact yd
inductive IiTupB (K:PySem.W.Frag) (R:(It->Hp->Prop)) (x:V) (H1:Hp):Prop
 |mk (a:_) (xs:_) (_:x= .ref a) (_:SqT K H1 a xs) (_:(xs.length<=UY->R (Itt K a) H1))
noncomputable def iTupB (K:o0)(tl:TE):TI:=λσ H R=>tl σ H λx H1=>IiTupB K R x H1
theorem Kg {X:Cx}{tg l:Expr}{tl:TE}(U:PE X l tl):PI X tg l (iTupB X.K tl):=by
 intro oq s σ H R I h;refine thn (U oq s σ H _ I h) λv s1 zq=> ?_;erw[zq,x,H1,O,Z,q1];erw[q1,a,xs,e,hq,q];subst e;cases Z;erw[O.tuple hq,its,rv,p,hz];refine tY (show s1.heap.IsTuple a its.toArray from p) ?_
 refine⟨s1.heap.objs.size,[s1.heap.objs.size],_,_,H1,1,O.kept (t':=s1.toks) λb o e=>ue _ e,Ws a _,⟨_,uE _ rfl,1,1⟩,λb hb=> ?_,q hz⟩;have e:b=s1.heap.objs.size:=by simpa using hb
 subst e;exact O.fpOk (uh _) (O.hok.fresh (uh _))
variable {X:Cx}
theorem call_lenB:Yx X (.builtin "len") (λxs H Q=>∃p ys,xs= [.ref p]/\(SqL X.K H p ys∨SqT X.K H p ys)/\(ys.length<=UY->Q (.int ys.length) H)):=by
 intro oq s σ H xs us Q I r h;erw[h,p,ys,e,O,q];have U:ys.length<=sizeLine:=by
  rcases O with O|O
  ·exact(I.list O).choose_spec.2.2
  ·exact(I.tuple O).choose_spec.2.2
 exact qM oq s σ H xs us Q I r ⟨p,ys,e,O,q U⟩
variable {n:Nat}
theorem ZJ (h:n<=xs.length):cutV xs (u_ (n:Int)) UU=xs.drop n:=by
 unfold cutV;rw [HT.sIx_none,HT.sIx_nat,TM h];exact uZ (by rw [vz];exact uh _)
end L2
namespace L2
open PySem PySem.Spec PyProof.Rows Builtin Builtin.Str
noncomputable def posL (c:Nat):oj Nat->Nat->oj Nat
 | [],_=> []
 |a::r,i=>if a=c then i::posL c r (i+1) else posL c r (i+1)
noncomputable def cutL (c:Nat):Nat->oj Nat->oj (oj Nat)
 |0,L=> [L]
 |_+1,[]=> [[]]
 |n+1,a::r=>if a=c then []::cutL c n r else match cutL c (n+1) r with
  |p::q=>(a::p)::q
  | []=> [[a]]
noncomputable def ofL (l:oj Nat):Str:=⟨l.toArray⟩
theorem Q0 (z:Str):ofL z.cps.toList=z:=by
 unfold ofL;simp
theorem Jw (c:Nat):∀(n:Nat) (L:oj Nat),∃p q,cutL c n L=p::q
 |0,L=>⟨L,[],by simp [cutL]⟩
 |n+1,[]=>⟨[],[],by simp [cutL]⟩
 |n+1,a::r=>by
  by_cases h:a=c
  ·exact⟨[],cutL c n r,by simp [cutL,h]⟩
  ·erw[Jw c (n+1) r,p,q,e];exact⟨a::p,q,by simp [cutL,h,e]⟩
theorem cutL_app {c:Nat}{n:Nat}{r:oj Nat}:∀{p:oj Nat},c∉p->cutL c (n+1) (p++c::r)=p::cutL c n r
 | [],_=>by simp [cutL]
 |a::p,h=>by
  have h1:a≠c:=λe=>h (by simp [e])
  have O:=cutL_app (n:=n) (r:=r) (p:=p) (λz=>h (uc _ z));show cutL c (n+1) (a::(p++c::r))=_;rw [cutL,A2 h1,O]
theorem wB {c:Nat}{n:Nat}:∀{p:oj Nat},c∉p->cutL c n p= [p]
 | [],_=>by cases n<;>simp [cutL]
 |a::p,h=>by
  have h1:a≠c:=λe=>h (by simp [e])
  cases n with
  |zero=>simp [cutL]
  |succ n=>
   have O:=wB (n:=n+1) (p:=p) (λz=>h (uc _ z));rw [cutL,A2 h1,O]
theorem subAt_sign (x:Str)(c i:Nat)(h:i<x.length):subAt x ⟨#[c]⟩ i=decide (x.cps.toList[i]? =u_ c):=by
 rw [StrLaws.subAt_eq];have O:i<x.cps.toList.length:=by simpa [Vx] using h
 have U:(x.cps.toList.drop i).take 1= [x.cps.toList[i]]:=by
  rw [ve O]
  rfl
 show((x.cps.toList.drop i).take 1== [c])=_;rw [U,ug O];generalize x.cps.toList[i]=k;by_cases e:k=c
 ·simp [e]
 ·simp [e]
theorem occ_go (x:Str)(c n:Nat):∀(m k:Nat) (found:Array Nat) (free:Nat),k+m=x.length+1->free<=k->
  (VD (gT k m) (found,free) (VU x ⟨#[c]⟩ x.length n)).run.fst.toList=found.toList++(posL c (x.cps.toList.drop k) k).take (n-found.size)
 |0,k,found,free,hk,_=>by
  have hl:x.cps.toList.length<=k:=by simp [Vx] at hk⊢;omega
  rw [U9 hl];simp [posL]
 |m+1,k,found,free,hk,hf=>by
  rw [List.range'_succ,Ui];unfold VU;have ac:x.cps.toList.length=x.length:=by simp [Vx]
  by_cases Z:k<x.length
  ·have aa:k<x.cps.toList.length:=by omega
   rw [ve aa];have hs:=subAt_sign x c k Z;rw [ug aa] at hs;by_cases e:x.cps.toList[k]=c
   ·have O:subAt x ⟨#[c]⟩ k=true:=by rw [hs,e];simp
    by_cases hn:found.size<n
    ·rw [A3 ⟨⟨[hn:hf],by show k+1<=x.length;omega⟩,O⟩]
     have U:=occ_go x c n m (k+1) (found.push k) (k+1) () (uh _)
     show(VD (gT (k+1) m) (found.push k,k+1) (VU x ⟨#[c]⟩ x.length n)).run.fst.toList=_;rw [U];rw [posL,A3 e,Array.toList_push,Fj];obtain⟨j,hj⟩:∃j,n-found.size=j+1:=[n-found.size-1:()]
     rw [hj,T1,show n-(found.size+1)=j by omega]
     simp
    ·rw [A2 (λz=>hn z.1.1.1)];have U:=occ_go x c n m (k+1) found free () ()
     show(VD (gT (k+1) m) (found,free) (VU x ⟨#[c]⟩ x.length n)).run.fst.toList=_;rw [U,show n-found.size=0 by omega]
     simp
   ·have O:¬subAt x ⟨#[c]⟩ k=true:=by rw [hs];intro z;exact e (uH (uj z))
    rw [A2 (λz=>O z.2)];have U:=occ_go x c n m (k+1) found free () ()
    show(VD (gT (k+1) m) (found,free) (VU x ⟨#[c]⟩ x.length n)).run.fst.toList=_;rw [U,posL,A2 e]
  ·rw [A2 (λz=>Z (by have:=z.1.2;show k<x.length;have h1:k+1<=x.length:=this;omega))]
   have U:=occ_go x c n m (k+1) found free () ()
   show(VD (gT (k+1) m) (found,free) (VU x ⟨#[c]⟩ x.length n)).run.fst.toList=_;rw [U];have h1:x.cps.toList.length<=k:=by omega
   rw [U9 h1,U9 ()]
   simp [posL]
theorem ki (x:Str)(c n:Nat):occurrences x ⟨#[c]⟩ 0 x.length n=(posL c x.cps.toList 0).take n:=by
 rw [FQ];have:=occ_go x c n (x.length+1) 0 #[] 0 () (uh _)
 simpa using this
noncomputable def att (p:oj Nat):oj (oj Nat)->oj (oj Nat)
 |q::r=>(p++q)::r
 | []=> [p]
theorem parts_go (x:Str)(c:Nat):∀(m n a b:Nat),a<=b->b+m=x.length->
  GT x 1 a ((posL c (x.cps.toList.drop b) b).take n)=(att ((x.cps.toList.drop a).take (b-a)) (cutL c n (x.cps.toList.drop b))).map ofL:=by
 have ac:x.cps.toList.length=x.length:=by simp [Vx]
 have O:∀i j,strSub x i j=ofL ((x.cps.toList.drop i).take (j-i)):=λi j=>by
  rw [<-Q0 (strSub x i j),TW]
 intro m
 induction m with
 |zero=>
  intro n a b aa hb;have h1:x.cps.toList.drop b= []:=U9 ()
  rw [h1];have e1:cutL c n []= [[]]:=by cases n<;>simp [cutL]
  rw [e1];simp only [posL,List.take_nil,GT,att,v6,uq,vR];rw [O,show x.length-a=b-a by omega]
 |succ m ih=>
  intro n a b aa hb;have U:b<x.cps.toList.length:=by omega
  rw [ve U];cases n with
  |zero=>
   simp only [List.take_zero,GT,cutL,att,uq,vR];rw [O,<-ve U];have Z:(x.cps.toList.drop a).take (x.length-a)=x.cps.toList.drop a:=uZ (by rw [vz];omega)
   have e3:x.cps.toList.drop b=(x.cps.toList.drop a).drop (b-a):=by rw [List.drop_drop];congr 1;omega
   rw [Z,e3,H_]
  |succ n=>
   by_cases e:x.cps.toList[b]=c
   ·rw [posL,A3 e,T1,GT,cutL,A3 e];rw [ih n (b+1) (b+1) (uh _) ()]
    erw[Jw c n (x.cps.toList.drop (b+1)),p,q,Z];rw [Z,O];simp [att]
   ·rw [posL,A2 e,ih (n+1) a (b+1) () (),cutL,A2 e]
    erw[Jw c (n+1) (x.cps.toList.drop (b+1)),p,q,Z];rw [Z];simp only [att,uq]
    congr 2
    have e3:b+1-a=(b-a)+1:=by omega
    have hx:b-a<(x.cps.toList.drop a).length:=by rw [vz];omega
    rw [e3,List.take_succ_eq_append_getElem hx];simp [show a+(b-a)=b by omega]
theorem parts_cut (x:Str)(c n:Nat):partsBetween x (occurrences x ⟨#[c]⟩ 0 x.length n) 1=(cutL c n x.cps.toList).map ofL:=by
 rw [StrLaws.partsBetween_eq,ki];have:=parts_go x c x.length n 0 0 (uh _) ()
 rw [T0] at this;rw [this];erw[Jw c n x.cps.toList,p,q,e];rw [e];simp [att]
theorem Z5 {c:Nat}:∀{L:oj Nat}{i:Nat},posL c L i= []->c∉L
 | [],_,_=>by simp
 |a::r,i,h=>by
  by_cases e:a=c
  ·simp [posL,e] at h
  ·rw [posL,A2 e] at h;have:=Z5 h;simp [Up e,this]
theorem Xd:∀(l:oj Str) (k:Nat),Vals (l.map V.str) (strsFrom k l)
 | [],_=> .nil
 |x::r,k=> .cons [k:1] (Xd r (k+1))
theorem XG:∀{l:oj Str}{us:oj o6},Vals (l.map V.str) us->∃ps:oj (Str×Tok),us=Gu ps/\ps.map (·.1)=l
 | [],_,.nil=>[[]:1:1]
 |x::r,_,.cons ⟨t,e⟩ h=>by
  erw[XG h,ps,O,U];subst e;exact⟨(x,t)::ps,by rw [O];rfl,by rw [uq,U]⟩
theorem Wx (z:Str):¬Vg z<Vg " ":=by
 have h1:Vg " "=1:=by decide+kernel
 rw [h1];unfold Vg;split
 ·omega
 ·split<;>omega
theorem Ke (c:Nat):∀(n:Nat) (L:oj Nat),(cutL c n L).length<=L.length+1
 |0,L=>by simp [cutL]
 |n+1,[]=>by simp [cutL]
 |n+1,a::r=>by
  by_cases h:a=c
  ·have:=Ke c n r;simp [cutL,h];omega
  ·have:=Ke c (n+1) r;erw[Jw c (n+1) r,p,q,e];rw [e] at this;simp only [cutL,A2 h,e];simp at this⊢;omega
noncomputable def spl (n:Nat)(z:Str):oj Str:=(cutL 32 n z.cps.toList).map ofL
theorem spl_len (n:Nat)(z:Str):(spl n z).length<=z.length+1:=by
 unfold spl;rw [ua];have:=Ke 32 n z.cps.toList
 simpa [Vx] using this
theorem JQ:(" ":Str)=⟨#[32]⟩:=by decide+kernel
variable {z:Str}{n:Nat}
theorem spl_one (hn:z.length<=n∨z.length<1∨True)(h:(occurrences z " " 0 z.length n).isEmpty=v_)(h0:n≠0):spl n z= [z]:=by
 rw [JQ,ki,List.isEmpty_iff] at h;have h1:posL 32 z.cps.toList 0= []:=by
  cases e:posL 32 z.cps.toList 0 with
  |nil=>rfl
  |cons a r=>
   rw [e] at h;obtain⟨k,rfl⟩:∃k,n=k+1:=[n-1:()]
   simp at h
 unfold spl;rw [wB (Z5 h1)];simp [Q0]
section
variable {X:Cx}
inductive rSplit (x:V) (vs:List V) (H:Hp) (Q:VK):Prop
 |mk (z:_) (_:x= .str z) (_:vs= [.str " "]) (_:z.length<=1000) (_:∀p,H p=UU->Q (.ref p) (upd H p (.lst ((spl (z.length+1) z).map V.str))))
variable {oq:oj (o3×Obj)}{σ:St}{H:Hp}{s:o7}{Q:VK}{ys:oj V}{its:oj o6}{t':Nat}
theorem JS (I:Inv X oq σ H s)(O:Vals ys its)(U:ys.length<=UY)(q:∀p,H p=UU->Q (.ref p) (upd H p (.lst ys)))(Z:0<t':=by ac_rfl):
  EP X oq σ Q (.ref s.heap.objs.size) {s with heap:=s.heap.push {cls:= .type "list",data:= .seq its.toArray},toks:=t'}:=
 ⟨.ref s.heap.objs.size,_,I.lnew O U,1,q _ I.fresh⟩
theorem mt_split:MtM X "str.split" rSplit:=by
 intro oq s σ H x vs v us Q I Z rv h;erw[h,z,rfl,rfl,hz,q];erw[Z,t,rfl];erw[rv.one,u,rfl,t',rfl];have O:z.length<=sizeLine:=by rw [uA];omega
 have one:spl (z.length+1) z= [z]->∀(T:Nat),0<T->EP X oq σ Q (.ref s.heap.objs.size) {s with heap:=s.heap.push {cls:= .type "list",data:= .seq [Vh z t].toArray},toks:=T}:=λe T hT=>by
  rw [e] at q;exact JS (ys:= [V.str z]) I (.cons (show RelV (V.str z) _ from[t:1]) .nil) (by show 1<=UY;decide) q
 cases h1:(decide (z.length<(" ":Str).length)||decide (Vg z<Vg " ")) with
 |true=>
  refine vx vA (vI _ _ _) vt (vS _ _) (rC z " " t t' h1) ?_;have h2:z.length<1:=by
   rw [hW] at h1;rcases h1 with h1|h1
   ·exact uj h1
   ·exact absurd (uj h1) (Wx z)
  refine one ?_ s.toks I.tk;have e:z.cps.toList= []:=U4 (by simpa [Vx] using h2)
  unfold spl;rw [e,cutL];rw [<-Q0 z,e]
  rfl
 |false=>
  cases U:(occurrences z " " 0 z.length (z.length+1)).isEmpty with
  |true=>
   refine vx vA (vI _ _ _) vt (vS _ _) (FT z " " t t' h1 () U) ?_
   exact one (spl_one (.inr (.inr trivial)) U ()) s.toks I.tk
  |false=>
   have hl:=spl_len (z.length+1) z;have e:partsBetween z (occurrences z " " 0 z.length (z.length+1)) (" ":Str).length=spl (z.length+1) z:=by
    rw [JQ];exact parts_cut z 32 (z.length+1)
   refine vx vA (vI _ _ _) vt (vS _ _) (Fq z " " t t' h1 () U O (by rw [e,uA];omega)) ?_
   rw [e];exact JS I (Xd _ _) (by rw [ua,uA];omega) q
theorem xT (x y:Str)(k:Int)(t u v:Tok)(Z:(decide (k< -(2^63:Int))||decide (k≥2^63))=UV)(h1:(decide (x.length<y.length)||decide (Vg x<Vg y))=UV)(hy:(y.length==0)=UV)
  (hf:(occurrences x y 0 x.length (GB x k)).isEmpty=v_):Meets («str.split» [[.str x t,.str y u,.int k v]:[]]) (F0 x t):=by
 erw[Ti x y k t u v Z,U,O];refine .of_wp λprog w A R s h=> ?_;rw [O,h1,hy,hf];show UW _ _ (do rule "str.split.same-object";ret (<-GM [.str x t])) _ _ s
 exact A4 (UK (A4 (Hu (uz [0:h]) (by show 1<=UY;decide))))
theorem j0 (x y:Str)(k:Int)(t u v:Tok)(Z:(decide (k< -(2^63:Int))||decide (k≥2^63))=UV)(h1:(decide (x.length<y.length)||decide (Vg x<Vg y))=v_):
  Meets («str.split» [[.str x t,.str y u,.int k v]:[]]) (F0 x t):=by
 erw[Ti x y k t u v Z,U,O];refine .of_wp λprog w A R s h=> ?_;rw [O,h1];show UW _ _ (do rule "str.split.sep-cannot-occur";ret (<-GM [.str x t])) _ _ s
 exact A4 (UK (A4 (Hu (uz [0:h]) (by show 1<=UY;decide))))
inductive rSplitN (x:V) (vs:List V) (H:Hp) (Q:VK):Prop
 |mk (z:Str) (n:Nat) (_:x= .str z) (_:vs= [.str " ",.int (n:Int)]) (_:z.length<=1000) (_:0<n) (_:n<=1000) (_:∀p,H p=UU->Q (.ref p) (upd H p (.lst ((spl n z).map V.str))))
theorem mt_splitN:MtM X "str.split" rSplitN:=by
 intro oq s σ H x vs v us Q I rx rv h;erw[h,z,n,rfl,rfl,hz,ac,hn,q];erw[rx,t,rfl];erw[vals2 rv,u,u',rfl,[t',rfl],[U,rfl]];have aa:z.length<=sizeLine:=by rw [uA];omega
 have hk:(decide ((n:Int)< -(2^63:Int))||decide ((n:Int)≥2^63))=false:=by
  rw [ud (),ud ()];rfl
 have O:GB z (n:Int)=n:=by
  unfold GB;rw [A2 ()]
  omega
 have one:spl n z= [z]->∀(T:Nat),0<T->EP X oq σ Q (.ref s.heap.objs.size) {s with heap:=s.heap.push {cls:= .type "list",data:= .seq [Vh z t].toArray},toks:=T}:=λe T hT=>by
  rw [e] at q;exact JS (ys:= [V.str z]) I (.cons (show RelV (V.str z) _ from[t:1]) .nil) (by show 1<=UY;decide) q
 cases h1:(decide (z.length<(" ":Str).length)||decide (Vg z<Vg " ")) with
 |true=>
  refine vx vA (vI _ _ _) vt (F.args_str_split_3 _ _ _) (j0 z " " n t t' U hk h1) ?_;have h2:z.length<1:=by
   rw [hW] at h1;rcases h1 with h1|h1
   ·exact uj h1
   ·exact absurd (uj h1) (Wx z)
  refine one ?_ s.toks I.tk;have e:z.cps.toList= []:=U4 (by simpa [Vx] using h2)
  obtain⟨j,rfl⟩:∃j,n=j+1:=[n-1:()]
  unfold spl;rw [e,cutL];rw [<-Q0 z,e]
  rfl
 |false=>
  cases Z:(occurrences z " " 0 z.length (GB z (n:Int))).isEmpty with
  |true=>
   refine vx vA (vI _ _ _) vt (F.args_str_split_3 _ _ _) (xT z " " n t t' U hk h1 () Z) ?_
   rw [O] at Z;exact one (spl_one (.inr (.inr trivial)) Z ()) s.toks I.tk
  |false=>
   have hl:=spl_len n z;have e:partsBetween z (occurrences z " " 0 z.length (GB z (n:Int))) (" ":Str).length=spl n z:=by
    rw [JQ,O];exact parts_cut z 32 n
   refine vx vA (vI _ _ _) vt (F.args_str_split_3 _ _ _) (meets_str_split_sep_max z " " n t t' U hk h1 () Z aa (by rw [e,uA];omega)) ?_
   rw [e];exact JS I (Xd _ _) (by rw [ua,uA];omega) q
noncomputable def J1 (c:Nat):oj Nat->oj Nat
 | []=> []
 |a::r=>if a=c then [] else a::J1 c r
theorem headL_pos {c:Nat}:∀{L:oj Nat}{i j:Nat}{r:oj Nat},posL c L i=j::r->i<=j/\J1 c L=L.take (j-i)
 | [],_,_,_,h=>by simp [posL] at h
 |a::q,i,j,r,h=>by
  by_cases e:a=c
  ·rw [posL,A3 e] at h;cases h;exact⟨uh _,by simp [J1,e]⟩
  ·rw [posL,A2 e] at h;erw[headL_pos h,h1,h2];exists ()
   rw [J1,A2 e,h2,show j-i=(j-(i+1))+1 by omega,T1]
theorem X5 {c:Nat}:∀{L:oj Nat},c∉L->J1 c L=L
 | [],_=>rfl
 |a::r,h=>by
  have h1:a≠c:=λe=>h (by simp [e])
  rw [J1,A2 h1,X5 λz=>h (uc _ z)]
noncomputable def hd (z:Str):Str:=ofL (J1 32 z.cps.toList)
theorem fin_tup (I:Inv X oq σ H s)(O:Vals ys its)(U:ys.length<=UY)(q:∀p,H p=UU->Q (.ref p) (upd H p (.tup ys)))(Z:0<t':=by ac_rfl):
  EP X oq σ Q (.ref s.heap.objs.size) {s with heap:=s.heap.push {cls:= .type "tuple",data:= .seq its.toArray},toks:=t'}:=
 ⟨.ref s.heap.objs.size,_,I.laid (o:= .tup ys) (λ_ _ w=>ue _ w) (uh _) ⟨U,its,O,Gm _ _⟩,1,q _ I.fresh⟩
inductive rPart (x:V) (vs:List V) (H:Hp) (Q:VK):Prop
 |mk (z:_) (_:x= .str z) (_:vs= [.str " "]) (_:z.length<=1000) (_:∀p a b,H p=UU->Q (.ref p) (upd H p (.tup [.str (hd z),.str a,.str b])))
theorem mt_part:MtM X "str.partition" rPart:=by
 intro oq s σ H x vs v us Q I rx rv h;erw[h,z,rfl,rfl,hz,q];erw[rx,t,rfl];erw[rv.one,u,rfl,t',rfl];have U:z.length<=sizeLine:=by rw [uA];omega
 refine vx F.slot_str_partition (vI _ _ _) F.entry_str_partition (F.args_str_partition_2 _ _) (meets_str_partition z " " t t' () U) ?_
 cases O:occurrences z " " 0 z.length 1 with
 |nil=>
  have h0:hd z=z:=by
   rw [JQ,ki] at O;have h1:posL 32 z.cps.toList 0= []:=by
    cases e:posL 32 z.cps.toList 0 with
    |nil=>rfl
    |cons a r=>rw [e] at O;simp at O
   unfold hd;rw [X5 (Z5 h1),Q0]
  refine fin_tup (ys:= [.str (hd z),.str HC,.str HC]) (t':=s.toks+1) I (.cons (show RelV (V.str (hd z)) _ from⟨t,by rw [h0]⟩) (.cons (show RelV (V.str _) _ from⟨0⟩) (.cons (show RelV (V.str _) _ from⟨0⟩) .nil))) (by show 3<=UY;decide) λp Z=>q p _ _ Z
 |cons i r=>
  have h0:hd z=strSub z 0 i:=by
   rw [JQ,ki] at O;cases e:posL 32 z.cps.toList 0 with
   |nil=>rw [e] at O;simp at O
   |cons a r'=>
    rw [e] at O;have:a=i:=by simp at O;exact O.1
    subst this;erw[headL_pos e,_,h2];unfold hd;rw [h2,<-Q0 (strSub z 0 a),TW,T0]
  refine fin_tup (ys:= [.str (hd z),.str " ",.str _]) (t':=s.toks+1+1) I (.cons (show RelV (V.str (hd z)) _ from⟨s.toks,by rw [h0]⟩) (.cons (show RelV (V.str _) _ from[t':1]) (.cons (show RelV (V.str _) _ from[s.toks+1:1]) .nil))) (by show 3<=UY;decide) λp Z=>q p _ _ Z
inductive rJoin (K:PySem.W.Frag) (x:V) (vs:List V) (H:Hp) (Q:VK):Prop
 |mk (sep:Str) (p:Addr) (l:List Str) (_:x= .str sep) (_:vs= [.ref p]) (_:SqL K H p (l.map V.str)) (_:(l.map (·.length)).sum+l.length*sep.length<=1000000) (_:Q (.str (V2 sep l)) H)
theorem kH:MtM X "str.join" (rJoin X.K):=by
 intro oq s σ H x vs v us Q I rx rv h;erw[h,sep,p,l,rfl,rfl,hp,hz,q];erw[rx,t,rfl];erw[rv.one,u,rfl,ru];cases ru;erw[I.list hp,its,r,pl,hl];erw[XG r,ps,rfl,Z];have U:tooLong ((ps.map (·.1)).toArray.foldl (·+ ·.length+sep.length) 0)=false:=by
  rw [Z];have:=Fu sep l;rw [this];unfold tooLong;refine ud ?_;rw [uA];omega
 refine vx F.slot_str_join (vI _ _ _) F.entry_str_join (F.args_str_join_2 _ _) (meets_str_join_list sep t p ps U) [pl.isList:?_];have O:(glued sep (ps.map (·.1))).length<=sizeLine:=Fp U
 match ps,Z,O with
 | [],Z,O=>
  subst Z;exact⟨O,.str _,H,I.tok _,⟨0⟩,q⟩
 | [a],Z,_=>
  subst Z;exact⟨.str _,H,I,[a.2:1],q⟩
 |a::b::r,Z,O=>
  subst Z;exists O,.str _,H,I.tok _,⟨0⟩;rw [To];exact q
theorem call_intS:Yx X (.type "int") (λxs H Q=>∃z n,xs= [.str z]/\PySem.intText? z=u_ n/\z.length<=640/\Q (.int n) H):=by
 intro oq s σ H xs us Q I r h;erw[h,z,n,rfl,hn,O,q];erw[xw r,u,rfl,t,rfl];exact PySem.W.KIN.call_text hn O ⟨.int n,H,I.tok _,⟨0⟩,q⟩
end
end L2
namespace L2
open PySem PySem.Spec PyProof.Rows
variable {X:Cx}{oq:oj (o3×Obj)}{σ:St}{H:Hp}{s:o7}{h':o8}{t':Nat}{fp:oj o3}
theorem Inv.turnedL (I:Inv X oq σ H s)(k:∀b o,b∉fp->s.heap.get? b=u_ o->h'.get? b=u_ o)(U:∀b∈fp,FpOk X oq H b)(ht:0<t':=by ac_rfl):Inv X oq σ H {s with heap:=h',toks:=t'}:=by
 have Z:∀b u,H b=u_ u->b∉fp:=λb u e z=>by
  have:=(U b z).1;rw [this] at e;cases e
 have nL:X.env.locals∉fp:=λz=>(U _ z).2.1 rfl;refine I.step (g':=s.gens) (d':=s.drawn) (ch:=fp) (λb hb=>⟨(U b hb).2.2.2.1,(U b hb).2.1,(U b hb).2.2.2.2.1,(U b hb).2.2.2.2.2⟩) (λb o _ _ O e _=>k b o O e) (λb o _ _ O e _=>[o.slots:k b o O e]) (λ_ _ _ _ n=>n)
  (λb o O e=>[o:k b o O e]) (λ_ _ e=>e) (λ_ _ _ e=>e) (λb ps e=>⟨#[],by rw [e];simp⟩) (λm hm=> ?_) (λb u e=> ?_) I.bare
 ·erw[hm,o,es,ep,ho,r];exact⟨o,es,ep,k _ o nL ho,r⟩
 ·refine(I.hok b u e).stay (λc v O q=>k c v ?_ q) (λ_ q=>q) λ_ _ q=>q;rcases O with z|z
  ·rw [z];exact Z b u e
  ·exact Z c _ z
theorem Inv.handed {X:Cx}{oq:oj (o3×Obj)}{σ:St}{H:Hp}{s:o7}{h':o8}{t':Nat}{fp:oj o3}{ys:oj V}{its:oj o6}(I:Inv X oq σ H s)(Z:∀b∈fp,FpOk X oq H b)(hl:∀b∈fp,b<s.heap.objs.size)(hv:Vals ys its)(hz:ys.length<=UY)
  (hn:h'.get? s.heap.objs.size=u_ {cls:= .type "tuple",data:= .seq its.toArray}) (hs:h'.objs.size=s.heap.objs.size+1) (k:∀b o,b∉fp->s.heap.get? b=u_ o->h'.get? b=u_ o) (ht:0<t':=by ac_rfl):
  Inv X oq σ (upd H s.heap.objs.size (.tup ys)) {s with heap:=h',toks:=t'}/\∀b∈fp,FpOk X oq (upd H s.heap.objs.size (.tup ys)) b:=by
 have I1:Inv X oq σ (upd H s.heap.objs.size (.tup ys)) {s with heap:=s.heap.push {cls:= .type "tuple",data:= .seq its.toArray},toks:=t'}:=
  I.laid (o:= .tup ys) (λ_ _ w=>ue _ w) (uh _) ⟨hz,its,hv,Gm _ _⟩
 have O:∀b∈fp,FpOk X oq (upd H s.heap.objs.size (.tup ys)) b:=λb U=>by
  erw[Z b U,f0,f1,f2,f3,f4,f5];have:=hl b U;exact⟨by rwa [qk (uN this)],f1,f2,f3,f4,f5⟩
 refine[I1.turnedL (h':=h') (t':=t') (λb o U e=> ?_) O:O];rcases Heap.get?_push_cases (show(s.heap.push {cls:= .type "tuple",data:= .seq its.toArray}).get? b=u_ o from e) with⟨rfl,rfl⟩|e'
 ·exact hn
 ·exact k b o U e'
noncomputable def Itz (K:o0)(a b:o3):It:=
 ⟨λi H=>∃xs ys x y,SqT K H a xs/\SqL K H b ys/\xs[i]? =u_ x/\ys[i]? =u_ y,
  λi H v H'=>∃p x y,v= .ref p/\H p=UU/\H'=upd H p (.tup [x,y])/\(∀xs,SqT K H a xs->xs[i]? =u_ x)/\∀ys,SqL K H b ys->ys[i]? =u_ y,
  λi H=>∃xs,SqT K H a xs/\xs.length=i⟩
noncomputable def tnZ (a b z p r i j:o3)(k:Nat)(h:o8):Prop:=
 Vk h z p r .none/\V9 h p (.ref i) (.ref j)/\(∃u v,V9 h r u v)/\h.IsTupleIter i a k/\h.IsListIter j b k/\AwZ.Apt z p r i j a b
variable {w:og}{K:o0}
theorem turn_zip {P:o9}{aa:oj Expr}{c:Nat}{tp:Pos}(a b z p r i j:o3):Turn P w K (.Tuple aa c tp) (Itz K a b) [z,p,r,i,j] z (tnZ a b z p r i j) where
 mem:=by simp
 obj:=λk h st x hx=>by
  erw[st,h1,h2,[u,v,h3],[o4,e4,c4,d4],[o5,e5,c5,d5],D];simp only [uB,vd,uL] at hx;rcases hx with rfl|rfl|rfl|rfl|rfl
  ·exact⟨_,h1,λv z=>by cases z⟩
  ·exact⟨_,h2,λv z=>by cases z⟩
  ·exact⟨_,h3,λv z=>by cases z⟩
  ·exact⟨o4,e4,λv z=>by rw [d4] at z;cases z⟩
  ·exact⟨o5,e5,λv z=>by rw [d5] at z;cases z⟩
 keep:=λk h h' st kk=>by
  erw[st,h1,h2,[u,v,h3],[o4,e4,r4],[o5,e5,r5],D];exact⟨kk z (by simp) _ h1,kk p (by simp) _ h2,⟨u,v,kk r (by simp) _ h3⟩,⟨o4,kk i (by simp) _ e4,r4⟩,⟨o5,kk j (by simp) _ e5,r5⟩,D⟩
 item:=by
  intro X hP hw hK O k oq s σ H E I hf st hg;subst hP hw hK;erw[hg,xs,ys,x,y,ha,hb,hx,hy];erw[I.tuple ha,its,ra,pa,za];erw[I.list hb,ak,rb,pb,zb];erw[ra.get hx,ux,ae,af];erw[rb.get hy,uy,ag,ah];erw[st,h1,h2,[u,v,h3],h4,h5,D];have l1:=uD h1;have l2:=uD h2;have l3:=uD h3;have l4:i<s.heap.objs.size:=by erw[h4,o,e,_];exact uD e
  have l5:j<s.heap.objs.size:=by erw[h5,o,e,_];exact uD e
  refine AwZ.zip_go D h1 h2 h3 h4 h5 (show s.heap.IsTuple a its.toArray from pa) pb.isList (x:=ux) (y:=uy) (by simpa using ae) (by simpa using ag) λh' g1 g2 g3 g4 g5 g6 g7=> ?_
  have g8:V9 h' p (.ref i) (.ref j):=g7 _ _ D.pz D.pr D.pi D.pj h2;obtain⟨I1,ac⟩:=I.handed (t':=s.toks) (ys:= [x,y]) (its:= [ux,uy]) hf (λc O=>by
   simp only [uB,vd,uL] at O;rcases O with rfl|rfl|rfl|rfl|rfl<;>assumption) (.cons af (.cons ah .nil)) (by show 2<=UY;decide) g5 g6 (λc o O e=>by
    simp only [uB,vd,uL,US] at O;exact g7 c o O.1 O.2.2.1 O.2.2.2.1 O.2.2.2.2 e)
  refine[0:wpAny_letOwnedTupleGo_zip (s:={s with heap:=h'}) g1 λad z2 s2=> ?_]
  have U:∀c o,c≠z->h'.get? c=u_ o->ad.get? c=u_ o:=λc o O e=>s2.extBut c o O e;refine⟨.ref s.heap.objs.size,_,I1.turnedL (fp:= [z]) (h':=ad) (t':=s.toks) (λc o O e=>U c o (by simpa using O) e) (λc O=>ac c (by simp at O;simp [O])),1,⟨_,x,y,1,I.fresh,1,λzs Z=> ?_,λzs Z=> ?_⟩,⟨z2,U _ _ D.pz g8,[_:_:U _ _ D.rz g2],?_,?_,D⟩,λc O=>(ac c O).1⟩
  ·rwa [I.tuple_inj Z ha]
  ·rwa [I.list_inj Z hb]
  ·erw[g3,o,e,q];exact[o:U _ _ D.iz e:q]
  ·erw[g4,o,e,q];exact[o:U _ _ D.jz e:q]
 done:=by
  intro X hP hw hK O k oq s σ H E I hf st hg;subst hP hw hK;erw[hg,xs,ha,hx];erw[I.tuple ha,its,ra,pa,za];have hl:=ra.length;erw[st,h1,h2,[u,v,h3],h4,h5,D];refine AwZ.zip_stop (A:=X.A) (I.ok.hd O) D h1 h2 h4 (show s.heap.IsTuple a its.toArray from pa) (by simp;omega) λh' kk=>[1:?_]
  exact I.turnedL (t':=s.toks) (λc o O e=>by
   simp only [uB,vd,uL,US] at O;exact kk c o O.1 O.2.2.1 O.2.2.2.1 O.2.2.2.2 e) hf
 self:=λ_ _ _ _ _ st h=>Fg st.1 h
section
variable {X:Cx}
variable {n:Nat}
theorem apt_mk {a b:Nat}(ha:a<n)(O:b<n):AwZ.Apt (n+4) (n+2) (n+3) n (n+1) a b:=by
 constructor<;>exact(show _≠((_:Nat)) by omega)
theorem five_le {x:Nat}(h:x=n+4∨x=n+2∨x=n+3∨x=n∨x=n+1):n<=x:=by omega
noncomputable def iZip (K:o0)(ta:TA):TI:=λσ H R=>ta σ H λvs H1=>∃a b xs ys,vs= [.ref a,.ref b]/\SqT K H1 a xs/\SqL K H1 b ys/\R (Itz K a b) H1
theorem pi_zip {U:oj Expr}{c:Nat}{tp p pos:Pos}{e1 O:Expr}{ta:TA}(hg:Gl X "zip")(hm:X.mg "zip"=UU)(ha:PA X [e1,O] ta)(hs:U_ [e1,O] X.env= [(UV,eval e1 X.env),(UV,eval O X.env)])(Z:U_ [O] X.env= [(UV,eval O X.env)]):
  PI X (.Tuple U c tp) (.Call (.Name "zip" p) [e1,O] [] pos) (iZip X.K ta):=by
 intro oq s σ H R I h;refine Call_ (W6 I hg hm boot_zip (vN (thn (ha pos oq s σ H _ I h) λus s1 zq=> ?_) (by rw [hs,Z]) (by rw [Z];rfl)));erw[zq,vs,H1,I1,r1,q1]
 erw[q1,a,b,xs,ys,e,hA,hB,q];subst e;erw[vals2 r1,u,u',rfl,ru,ac];cases ru;cases ac;erw[I1.tuple hA,its,ra,pa,za];erw[I1.list hB,ad,rb,pb,zb];have la:a<s1.heap.objs.size:=by erw[id pa,o,e,_];exact uD e
 have lb:b<s1.heap.objs.size:=by erw[id pb,o,n,e,_];exact uD e
 refine AwZ.zip_call (show s1.heap.IsTuple a its.toArray from pa) pb.isList λh2 g1 g2 g3 g4 g5 g6 g7=> ?_
 refine Fg (s:={s1 with heap:=h2}) g1 ?_
 refine⟨_,[s1.heap.objs.size+4,s1.heap.objs.size+2,s1.heap.objs.size+3,s1.heap.objs.size,s1.heap.objs.size+1],_,_,H1,1,I1.kept (t':=s1.toks) g7,turn_zip a b _ _ _ _ _,⟨g1,g2,[_:_:g3],g4,g5,?_⟩,λx hx=> ?_,q⟩
 ·exact apt_mk la lb
 ·have aa:s1.heap.objs.size<=x:=by
   simp only [uB,vd,uL] at hx;exact five_le hx
  exact I1.fpOk aa (I1.hok.fresh aa)
noncomputable def KDict (K:o0)(w:og)(a:o3):Prop:=(a==Vf)=UV/\∃es n,K.lookup a=u_ ⟨.type "dict",UU,.dict es n,#[]⟩/\PySem.W.KeysLit w.params es.toList
inductive rNotK (K:PySem.W.Frag) (w:World) (x:V) (y:V) (H:Hp) (Q:VK):Prop
 |mk (z:_) (a:_) (r:_) (_:x= .str z) (_:y= .ref a) (_:KDict K w a) (_:PySem.W.nsIn K a z=u_ r) (_:Q (.bl (!r.isSome)) H)
theorem op_notK:OpR X (V6 .NotIn) (rNotK X.K X.w):=by
 intro oq s σ H x y v u Q I U Z h;erw[h,z,a,r,rfl,rfl,[hs,es,n,O,hk],hn,q];erw[U,t,rfl];cases Z;have hm:=PySem.W.mapOf_K (prog:=X.prog) (w:=X.w) I.kIn O hk;refine T9 (tK X.prog X.w z t) hs hm ⟨.bl (!r.isSome),H,I.tok _,?_,q⟩;rw [PySem.W.find_K O hn]
 rfl
inductive rIxK (K:PySem.W.Frag) (w:World) (x:V) (y:V) (H:Hp) (Q:VK):Prop
 |mk (z:_) (a:_) (u:_) (v:_) (_:x= .ref a) (_:y= .str z) (_:KDict K w a) (_:PySem.W.nsIn K a z=u_ (u_ u)) (_:RelV v u) (_:Q v H)
theorem ix_K:IxR X (rIxK X.K X.w):=by
 intro value slice oq s σ H x y v u Q I U Z h hs;erw[h,z,a,u',v',rfl,rfl,[_,es,n,O,hk],hn,hr,q];erw[Z,t,rfl];cases U;have hm:=PySem.W.mapOf_K (prog:=X.prog) (w:=X.w) I.kIn O hk;exact GO hm.typeIs slot_dict_getitem.lookup (rD (tK X.prog X.w z t) hm (PySem.W.find_K O hn) ⟨v',H,I.tok _,hr,q⟩) hs
end
section
variable {X:Cx}{K:o0}
theorem Kb (h:X.K=K):Yx X (.builtin "len") (λxs H Q=>∃p ys,xs= [.ref p]/\(SqL K H p ys∨SqT K H p ys)/\Q (.int ys.length) H):=by subst h;exact qM
theorem pg_tupK {es:oj Expr}{k:Nat}{t:TGs}{n:Nat}{pos:Pos}(U:X.K=K)(Z:X.calm=v_)(h:PGs X es t)
  (hn:(VA es X.env).length=n) (O:(VA es X.env).findIdx? (·.1)=UU):PG X (.Tuple es k pos) (gTup K n t):=by subst U;exact pg_tup Z h hn O
end
theorem JV {lo:Int}{n:Nat}{L:o3}{H1:Hp}{te:TE}{tl:St}{Q:VK}(C:Nat->oj V->Hp->Prop)(hn:n<=UY)(h0:C 0 [] (upd H1 L (.lst [])))
  (Z:∀i ys H,i<n->C i ys H->H L=u_ (.lst ys)->ys.length<=i->∀R:VK,(∀y H4,H4 L=u_ (.lst ys)->C (i+1) (ys++ [y]) (upd H4 L (.lst (ys++ [y])))->R y H4)->te (u_ (.int (lo+(i:Int)))::tl) H R)
  (hQ:∀ys H,C n ys H->H L=u_ (.lst ys)->Q (.ref L) H):lcGo L (Itr lo n) (jt 0) tYes te (UU::tl) H1 Q:=by
 refine⟨n,λi σ ys H=>(∃x,σ=x::tl)/\C i ys H,hn,[[UU:1]:h0],?_,?_⟩
 ·rintro i σ ys H hi ⟨⟨x,rfl⟩,O⟩ U hy;exists hi;rintro x' H' ⟨rfl,rfl⟩;dsimp only [jt,tYes,gY];rw [A3 rfl];exact Z i ys H' hi O U hy _ λy H4 e c=>[e:⟨0⟩:c]
 ·rintro σ ys H ⟨_,O⟩ U;exact[uh _:hQ ys H O U]
theorem lc_zip {K:o0}{a b A:o3}{H1:Hp}{te:TE}{tl:St}{Q:VK}{xs ys:oj V}(f:Nat->D)(ha:∀H,Same H1 H->SqT K H a xs)(hb:∀H,Same H1 H->SqL K H b ys)(ac:xs.length=ys.length)(hn:xs.length<=UY)(hA:H1 A=UU)
  (Z:∀i x y H (R:VK),xs[i]? =u_ x->ys[i]? =u_ y->Same H1 H->(∀v H',Same H H'->Is H' (f i) v->R v H')->te (u_ x::u_ y::tl) H R)
  (hQ:∀H' vs,Same H1 H'->H' A=u_ (.lst vs)->L2.IsL H' ((V4 xs.length).map f) vs->Q (.ref A) H'):lcGo A (Itz K a b) (gTup K 2 (gCons (jt 0) (gCons (jt 1) gNil))) tYes te (UU::UU::tl) H1 Q:=by
 refine⟨xs.length,λi σ us H=>(∃u v,σ=u::v::tl)/\L2.IsL H ((V4 i).map f) us/\Same H1 H,hn,[[UU:UU:1]:1:qh hA _],?_,?_⟩
 ·rintro i σ us H hi ⟨⟨u,v,rfl⟩,hl,sm⟩ O ad;have hx:xs[i]? =u_ xs[i]:=ug hi;have hy:ys[i]? =u_ (ys[i]'()):=ug _
  refine[⟨xs,ys,_,_,ha H sm,hb H sm,hx,hy⟩:λx H' y=> ?_];erw[y,p,x',y',rfl,hp,rfl,e1,e2];have e1:=e1 xs (ha H sm);have e2:=e2 ys (hb H sm);have s2:Same H (upd H p (.tup [x',y'])):=qh hp _;exists p,0,SqT.of qi,1,x',0,y',0,1;dsimp only [tYes];rw [A3 rfl];refine Z i x' y' _ _ e1 e2 (sm.trans s2) λy4 H4 U aa=>⟨U _ _ (s2 _ _ O),[_:0],?_,λb o e=> ?_⟩
  ·have t:Tk H4 (upd H4 A (.lst (us++ [y4]))):=Tk.updL (U _ _ (s2 _ _ O));rw [Hq,ur];exact((hl.mono (s2.trans U).tk).mono t).append (IsL.one (aa.mono t))
  ·rw [qk (ql e hA)];exact U b o (s2 b o (sm b o e))
 ·rintro σ us H ⟨_,hl,sm⟩ O;exact[[xs:ha H sm:1]:hQ H us sm O hl]
theorem JB (z:Str)(l:oj Str):inV (.str z) (l.map V.str)=decide (z∈l):=by
 unfold inV;rw [tm,vF,Fv,v9];constructor
 ·rintro⟨x,U,e⟩;have O:(x==z)=true:=e;rw [beq_iff_eq] at O;exact O▸U
 ·intro h;exact⟨z,h,by show(z==z)=v_;exact beq_self_eq_true z⟩
theorem wL (l:oj Str):(l.map V.str).all Zi=true:=by
 rw [U2,U5];intro x _
 rfl
inductive Pt where
 |s (z:Str)|n (i:Int)
noncomputable def Pt.d:Pt->D
 | .s z=> .str z
 | .n i=> .int i
noncomputable def Pt.t:Pt->Str
 | .s z=>z
 | .n i=>V3 i
inductive Kd where
 |box|line|words
 deriving DecidableEq
noncomputable def Kd.t:Kd->Str
 | .box=>"box"
 | .line=>"line"
 | .words=>"words"
noncomputable def BX:oj Str:= ["a","b","c","d","e","f","g","h"]
noncomputable def FRM:oj (Str×oj Kd):= [("text",[.box,.words]),("self",[.box]),("copy",[.box,.box]),("row",[.box]),("put",[.box,.box]),("join",[.box,.box]),("first",[.box,.box]),("rest",[.box,.box]),
 ("size",[.box,.box]),("cut",[.box,.box,.box]),("glue",[.box,.box,.box]),("ask",[.box,.box]),("has",[.box,.box]),("names",[.box,.box]),("go",[.line]),("like",[.box,.box,.line]),
 ("rowed",[.box,.line]),("none",[.box,.line]),("say",[.box]),("fault",[])]
noncomputable def ptOk (n m:Nat):Kd->Pt->Prop
 | .box,.s z=>z∈BX
 | .line,.n i=>1<=i/\i<=n
 | .words,.s z=>z.length<=m/\z.cps.toList.all QE=v_
 |_,_=>False
noncomputable def xF (n m:Nat):oj Kd->oj Pt->Prop
 | [],[]=>True
 |k::ks,p::ps=>ptOk n m k p/\xF n m ks ps
 |_,_=>False
noncomputable abbrev Rw:=Str×oj Pt
noncomputable def j3 (n m:Nat)(r:Rw):Prop:=∃ks,(r.1,ks)∈FRM/\xF n m ks r.2
noncomputable def txs (r:Rw):oj Str:=r.1::r.2.map Pt.t
noncomputable def y8 (r:Rw):Str:=V2 " " (txs r)
noncomputable def rowD (r:Rw):D:= .tup [.str r.1,.tup (r.2.map Pt.d)]
theorem Jm:∀(x y:Str) (r:oj Str),(V2 " " (x::y::r)).cps.toList=x.cps.toList++32::(V2 " " (y::r)).cps.toList:=by
 intro x y r;show((x.cps++(" ":Str).cps)++(V2 " " (y::r)).cps).toList=_;rw [Hr,Hr,JQ];simp
noncomputable abbrev Free (z:Str):Prop:=32∉z.cps.toList
theorem Ka:∀(l:oj Str) (z:Str) (n:Nat),(∀p∈l,Free p)->(n=0∨Free z)->spl (l.length+n) (V2 " " (l++ [z]))=l++ [z]
 | [],z,n,_,hz=>by
  show spl (0+n) z= [z];rw [t_];unfold spl;rcases hz with rfl|hz
  ·rw [cutL];show [ofL z.cps.toList]= [z];rw [Q0]
  ·rw [wB hz];show [ofL z.cps.toList]= [z];rw [Q0]
 |p::l,z,n,hl,hz=>by
  have O:=Ka l z n (λq U=>hl q (uc _ U)) hz;have Z:Free p:=hl p uf;obtain⟨y,r,e⟩:∃y r,l++ [z]=y::r:=by cases l<;>exact[_:0]
  show spl ((l.length+1)+n) (V2 " " (p::(l++ [z])))=p::(l++ [z]);rw [e] at O⊢;unfold spl at O⊢;rw [Jm,show l.length+1+n=(l.length+n)+1 by omega,cutL_app Z,uq,O,Q0]
theorem hd_join (w:Str)(r:oj Str)(h:Free w):hd (V2 " " (w::r))=w:=by
 have O:∀(p q:oj Nat),32∉p->J1 32 (p++32::q)=p:=by
  intro p
  induction p with
  |nil=>intro q _;simp [J1]
  |cons a p U=>
   intro q h;have h1:a≠32:=λe=>h (by simp [e])
   show J1 32 (a::(p++32::q))=a::p;rw [J1,A2 h1,U q λz=>h (uc _ z)]
 cases r with
 |nil=>
  show ofL (J1 32 w.cps.toList)=w;rw [X5 h,Q0]
 |cons y r=>
  unfold hd;rw [Jm,O _ _ h,Q0]
theorem join_len:∀(l:oj Str),l≠ []->(V2 " " l).length+1=(l.map (·.length)).sum+l.length
 | [],h=>absurd rfl h
 | [x],_=>by simp [V2]
 |x::y::r,_=>by
  have O:=join_len (y::r) (by simp)
  have e:(V2 " " (x::y::r)).length=x.length+(1+(V2 " " (y::r)).length):=by
   have:=congrArg VP (Jm x y r);rw [uu,ui] at this;simp only [vb] at this;show(V2 " " (x::y::r)).cps.size=_;rw [this];show x.cps.size+((V2 " " (y::r)).cps.size+1)=x.cps.size+(1+(V2 " " (y::r)).cps.size);omega
  rw [e,uq,Um,ui];omega
variable {i:Int}
theorem num_small (h1:1<=i)(h2:i<=40):(V3 i:Str).length<=2/\Free (V3 i:Str)/\(V3 i:Str).cps.toList.all QE=true:=by
 obtain⟨k,rfl⟩:∃k:Fin 41,i=((k.val:Nat):Int):=⟨[i.toNat:()],by simp;omega⟩
 have O:∀k:Fin 41,(V3 ((k.val:Nat):Int):Str).length<=2/\decide (Free (V3 ((k.val:Nat):Int):Str))=v_/\(V3 ((k.val:Nat):Int):Str).cps.toList.all QE=true:=by decide+kernel
 erw[O k,a,b,c];exact[a:uj b:c]
theorem Kq (h1:1<=i)(h2:i<=40):PySem.intText? (V3 i:Str)=u_ i:=PySem.W.KIN.num_reads () ()
variable {z:Str}
theorem box_ok (h:z∈BX):z.length=1/\Free z/\z.cps.toList.all QE=true:=by
 have O:∀z∈BX,z.length=1/\decide (Free z)=v_/\z.cps.toList.all QE=true:=by decide+kernel
 erw[O z h,a,b,c];exact[a:uj b:c]
theorem word_ok:∀x∈FRM,decide (Free x.1)=v_/\x.1.cps.toList.all QE=true:=by decide+kernel
theorem form_ok:∀x∈FRM,(decide (Kd.words∈x.2)=UV)∨x=(("text":Str),[Kd.box,Kd.words]):=by decide+kernel
theorem form_nd:∀x∈FRM,∀y∈FRM,x.1=y.1->x=y:=by decide+kernel
variable {n:Nat}
theorem ptOk_free {m:Nat}(hn:n<=40){k:Kd}{p:Pt}(h:ptOk n m k p)(O:k≠ .words):Free p.t:=by
 cases k<;>cases p<;>simp only [ptOk] at h
 ·exact(box_ok h).2.1
 ·exact(num_small h.1 ()).2.1
 ·exact absurd rfl O
theorem zP {n m:Nat}:∀{ks:oj Kd}{ps:oj Pt},xF n m ks ps->ps.length=ks.length
 | [],[],_=>rfl
 |_::_,_::_,h=>by rw [ui,ui,zP h.2]
 | [],_::_,h=>h.elim
 |_::_,[],h=>h.elim
theorem W9 {n m:Nat}(hn:n<=40):∀{ks:oj Kd}{ps:oj Pt},xF n m ks ps->Kd.words∉ks->∀p∈ps.map Pt.t,Free p
 | [],[],_,_=>λp O=>by simp at O
 |_::_,_::_,h,hk=>λp O=>by
  rw [uq] at O;rcases A5.mp O with rfl|O
  ·exact ptOk_free hn h.1 λe=>hk (by simp [e])
  ·exact W9 hn h.2 (λz=>hk (uc _ z)) p O
 | [],_::_,h,_=>h.elim
 |_::_,[],h,_=>h.elim
variable {r:Rw}
theorem line_hd {m:Nat}(h:j3 n m r):hd (y8 r)=r.1:=by
 erw[h,ks,O,U];exact hd_join _ _ (uj (word_ok _ O).1)
variable {ks:oj Kd}
theorem line_spl {m:Nat}(hn:n<=40)(hk:(r.1,ks)∈FRM)(Z:xF n m ks r.2):spl (if Kd.words∈ks then ks.length else(y8 r).length+1) (y8 r)=txs r:=by
 have hw:Free r.1:=uj (word_ok _ hk).1;by_cases h:Kd.words∈ks
 ·rw [A3 h];rcases form_ok _ hk with e|e
  ·simp at e;exact absurd h e
  ·have e1:ks= [.box,.words]:=congrArg Prod.snd e;subst e1;erw[r,w,ps]
   match ps,Z with
   | [p,q],Z=>
    have:=Ka [w,p.t] q.t 0 (λz hz=>by
     simp only [uB,vd,uL] at hz;rcases hz with rfl|rfl
     ·exact hw
     ·exact ptOk_free hn Z.1 ()) (.inl rfl)
    exact this
 ·rw [A2 h];have hf:∀p∈txs r,Free p:=λp U=>by
   rcases A5.mp U with rfl|U
   ·exact hw
   ·exact W9 hn Z h p U
  rcases Tw (txs r) with e|⟨l,z,e⟩
  ·simp [txs] at e
  ·rw [FB] at e;have O:=join_len (txs r) (by simp [txs])
   unfold y8;rw [e] at hf O⊢;have hl:l.length<=(V2 " " (l++ [z])).length:=by
    rw [uu] at O;simp only [ui,h_] at O;omega
   have:=Ka l z ((V2 " " (l++ [z])).length+1-l.length) (λq hq=>hf q (vg _ hq)) (.inr (hf z (by simp)))
   rw [show l.length+((V2 " " (l++ [z])).length+1-l.length)=(V2 " " (l++ [z])).length+1 by omega] at this
   exact this
def VE:oj o6:= [.type "ValueError",.type "Exception",.type "BaseException",.type "object"]
noncomputable def CX1 (P:o9)(w:og):CXT:=λouter H s E e s'=>∃(ea C:o3) (a0:o6) (H':Hp) (B:o8),e= .ref ea/\s'.os=s.os/\Vv s'.gens/\0<s'.toks/\Un (frs outer) [] H H' s.heap s'.heap/\HOk P w H' B/\
 Tu B outer ea (.ref C) a0 s'.heap/\(∀b o,s.heap.get? b=u_ o->b∉frs outer->∃o',B.get? b=u_ o')/\E (.ref ea) (u_ C) H'
variable {h:o8}{C:o3}
theorem cls_in {bmB:oj o6}{newId:String}(X:K.In h)(q:PySem.W.excIn K C bmB newId=v_):
  ∃bm N nm Z bs hdct sn sub ab col dd k0 k1 k2 k3 k5 mN,h.get? C=u_ (excClassObj nm Z C N bs bm hdct sn sub ab col dd k0 k1 k2 k3 k5 newId)/\h.Ns N mN/\mN "__init__"=UU/\OwnTail h bmB bm:=by
 unfold PySem.W.excIn at q;split at q
 ·rename_i dd cd sl ho
  split at q
  ·rename_i C' bm k0 k1 k2 k3 n k5 hm hs
   simp only [uw,beq_iff_eq,TV] at q;erw[q,[[[[rfl,rfl],O],ht],hok],U];erw[cd,nm,bs,aa,ns,Z,hd,sn,sub,ab,col,ac];dsimp only at hm O hok U;subst hm O;obtain⟨l⟩:=sl;simp only at hs;subst hs;exact⟨bm,ns,nm,Z,bs,hd,sn,sub,ab,col,dd,k0,k1,k2,k3,k5,_,X _ _ ho,.of_isNs (PySem.W.isNs_of_in X hok),PySem.W.nsMap_none_of_in X hok U,PySem.W.tail_of_in X ht⟩
  ·cases q
 ·cases q
theorem funs_gone {h base B:o8}:∀{l:oj Env},h.FunFrames base l->(∀b∈frs l,B.get? b=UU)->h.FunFrames B l
 | [],_,_=>trivial
 |env::r,⟨hk,⟨L,o,hf,hn,ho,hd⟩,hr⟩,hB=>by
  have e:frs (env::r)=L::frs r:=by unfold frs;rw [vM,hf]
  rw [e] at hB;exact[hk:⟨L,o,hf,hB L uf,ho,hd⟩:funs_gone hr λb O=>hB b (uc _ O)]
noncomputable def tRaise (E:XK)(C:o3)(ta:TE):TS:=λ_ σ H=>tCons ta tNil σ H λvs H1=>vs.length=1/\∀e,E (.ref e) (u_ C) H1
theorem ps_raise {P:o9}{w:og}{K:o0}{mg:Str->om o6}{base:o8}{N:oj Str}{qual:Str}{scope:Vd}{f:o3}{U:o6}{A:oh}{outer:oj Env}{s₀:o7}{H₀:Hp}{E:XK}
  {x:Str}{C:o3}{np cpos pos:Pos}{aa:Expr}{ta:TE} (hx:PySem.W.excIn K C VE "ValueError.__new__"=v_) (hg:Gl (cxOf (CX1 P w) P w K mg base N qual scope f U A outer s₀ H₀ E) x) (hm:mg x=u_ (.ref C))
  (ha:PE (cxOf (CX1 P w) P w K mg base N qual scope f U A outer s₀ H₀ E) aa ta) (hd:(x==("__debug__":Str))=UV)
  (hs:U_ [aa] (V0 qual scope s₀.heap.objs.size f U)= [(UV,eval aa (V0 qual scope s₀.heap.objs.size f U))]):
  PS (cxOf (CX1 P w) P w K mg base N qual scope f U A outer s₀ H₀ E) (.Raise (u_ (.Call (.Name x np) [aa] [] cpos)) UU pos) (tRaise E C ta):=by
 intro oq s σ H D I h;erw[cls_in I.mod.kin hx,bm,Nn,nm,q,bs,hdct,sn,sub,ab,col,dd,k0,k1,k2,k3,k5,mN,hC,hN,aq,T];have hT:bm.contains (.type "BaseException")=true:=T.hasType ()
 refine wpAny_Raise_call_subT (C:=C) (nm:=nm) (q:=q) (N:=Nn) (bs:=bs) (bm:=bm) (hdct:=hdct) (sn:=sn) (sub:=sub) (ab:=ab) (col:=col) (dd:=dd) (k0:=k0) (k1:=k1) (k2:=k2) (k3:=k3) (k5:=k5)
  (mN:=mN) F.excBase_ValueError hT (I.ok.hd rfl) (by show(V8 cpos (U_ [aa] (V0 qual scope s₀.heap.objs.size f U))).any (·.1)=UV;rw [hs];rfl) aq (kl I hg hm [1:?_] hd)
 have au:PA (cxOf (CX1 P w) P w K mg base N qual scope f U A outer s₀ H₀ E) [aa] (tCons ta tNil):=qd ha qf hs;have hp:=au cpos oq s σ H (λvs H1=>vs.length=1/\∀e,E (.ref e) (u_ C) H1) I h;show UW _ _ (evalArgs (.ref C) v_ (V8 cpos (U_ [aa] (V0 qual scope s₀.heap.objs.size f U))) []) _ _ s;have aw:U_ [aa] (cxOf (CX1 P w) P w K mg base N qual scope f U A outer s₀ H₀ E).env= [(UV,eval aa (V0 qual scope s₀.heap.objs.size f U))]:=hs;rw [aw] at hp;rw [hs];refine Uq (vG hp (λvs s₂ h₂=> ?_) λ_ _ y=>y);erw[h₂,ws,H2,I2,r2,q2];erw[q2,hl,q2];have bk:=I2.bk;have ax:vs.length<=sizeLine:=by rw [<-r2.length,hl];decide
 refine⟨1,ax,bk _ _ hC,hN.keeps bk,T.keeps bk,λh' e ad=> ?_⟩;show UW (Va P w) (A.deeper (V0 qual scope s₀.heap.objs.size f U)) (HG (V0 qual scope s₀.heap.objs.size f U) (.ref e)) (λ_ ag=>CX1 P w outer H₀ s₀ E (.ref e) ag) (λe' ag=>CX1 P w outer H₀ s₀ E e' ag) _;have ay:(A.deeper (V0 qual scope s₀.heap.objs.size f U)).frames=u_ (V0 qual scope s₀.heap.objs.size f U::outer):=I2.ok.frames;have ak:s₂.heap.FunFrames base (V0 qual scope s₀.heap.objs.size f U::outer):=I2.stack;have ah:∀b∈frs (V0 qual scope s₀.heap.objs.size f U::outer),H2 b=none:=I2.stkFree;have al:frs (V0 qual scope s₀.heap.objs.size f U::outer)=s₀.heap.objs.size::frs outer:=rfl;have ap:s₀.heap.objs.size<=s₀.heap.objs.size:=I2.ok.above;have O:Un (frs outer) [] H₀ H2 s₀.heap s₂.heap:=I2.base;refine wpAny_leaves_madeW (base:=TI.gone s₂.heap (frs (V0 qual scope s₀.heap.objs.size f U::outer))) (h:=s₂.heap) (L:=s₀.heap.objs.size) ay rfl (λb o e=>(TI.gone_some e).2) (funs_gone ak λb Z=>TI.gone_none Z) ad λam t af aB _ aA=> ?_;have ae:∀b o,b∉frs (V0 qual scope s₀.heap.objs.size f U::outer)->s₂.heap.get? b=u_ o->am.get? b=u_ o:=λb o Z e=>af.1 b o (by rwa [TI.gone_get Z])
 have slots:∀b o,s₂.heap.get? b=u_ o->(∀vs,o.data≠ .fields vs)->∃sl,am.get? b=u_ {o with slots:=sl}:=λb o e hn=>aA b o (ad.keeps b o e) hn
 have nd:∀b∈frs outer,∀o,s₂.heap.get? b=u_ o->∀vs,o.data≠ .fields vs:=λb Z o e=>by
  obtain⟨_,o',e',hn⟩:=ak.mem (show b∈(V0 qual scope s₀.heap.objs.size f U::outer).filterMap (·.frame) from by rw [show(V0 qual scope s₀.heap.objs.size f U::outer).filterMap (·.frame)=frs (V0 qual scope s₀.heap.objs.size f U::outer) from rfl,al];exact uc _ Z)
  rw [e] at e';cases e';exact hn
 have ac:∀b o,s₀.heap.get? b=u_ o->b∉frs outer->b∉frs (V0 qual scope s₀.heap.objs.size f U::outer):=λb o e Z hm=>by
  rw [al] at hm;rcases A5.mp hm with rfl|hm
  ·exact absurd (uD e) (vD _)
  ·exact Z hm
 refine⟨e,C,.ref t,H2,0,I2.os,I2.bare,(by first|exact I2.tk|exact V7 I2.tk (UQ _ _)|((try dsimp only);first|assumption|exact Inv.tk (by assumption)|exact tM _|exact V7 (Inv.tk (by assumption)) (by assumption)|exact Nat.add_pos_left (Inv.tk (by assumption)) _|omega)),⟨?_,?_,O.free,?_,O.tups,O.frzs,O.tbls⟩,?_,af,?_,q2 e⟩
 ·intro b o e1 hn Z hx;exact ae b o (ac b o e1 Z) (O.keep b o e1 hn Z hx)
 ·intro b o e1 hn Z hx;erw[O.slot b o e1 hn Z hx,sl,e2];erw[slots b _ e2 (nd b Z _ e2),ao,e3];exact[ao:e3]
 ·intro b o e1 hx;erw[O.there b o e1 hx,o',e2];by_cases Z:b∈frs outer
  ·erw[slots b _ e2 (nd b Z _ e2),ao,e3];exact[_:e3]
  ·exact[o':ae b o' (ac b o e1 Z) e2]
 ·intro b u Z;refine(I2.hok b u Z).stay (λc v hc q=> ?_) (λ_ q=>q) λ_ _ q=>q;rw [TI.gone_get]
  ·exact q
  ·intro hm;have hn:=ah c hm;rcases hc with z|z
   ·rw [z,Z] at hn;cases hn
   ·rw [z] at hn;cases hn
 ·intro b o e1 Z;obtain⟨o',e2⟩:=O.there b o e1 (by simp)
  exact⟨o',by rwa [TI.gone_get (ac b o e1 Z)]⟩
theorem Fun.okX {P:o9}{w:og}{K:o0}{mg:Str->om o6}{base:o8}{x qual:Str}{st:Stmt}{f:o3}{fd:UX}{N ps:oj Str}{k:Nat}{sp:Sp}(F:Fun K x qual st f fd)(S:qv N ps (qj st))(len:∀vs H Q E,sp vs H Q E->vs.length=ps.length)
  (O:∀(cdv:o6) (A:oh) (outer:oj Env) (s:o7) (H:Hp) (vs:oj V) (Q:VK) (E:XK),Room k (A.deeper (V0 qual (qj st) s.heap.objs.size f cdv))->sp vs H Q E->
   ∃t,PSs (cxOf (CX1 P w) P w K mg base N qual (qj st) f cdv A outer s H E) (yU st) t/\t {nx:=λ_ H'=>Q .non H',rt:=Q} (kg N vs) H):FnOk P w K mg base (CX1 P w) (k+1) f fd ps sp:=by
 erw[F.ex,oc,od,kV,doc,pm,an,cdv,ct,osl,rfl,lk,U];exact fn_of lk U S len λA outer s H vs Q E hr Z=>O cdv A outer s H vs Q E hr Z
end L2
namespace HT
open PySem PyProof.Rows
section
variable {prog:o9}{w:og}{A:oh}{E:o6->o7->Prop}{s:o7}
theorem getItem_tuple_all {t sl:o3}{items:Array o6}{vl vu:o6}{lo hi:om Int}{Q:o6->o7->Prop}(O:gR s.heap t items)(hs:s.heap.IsSliceOf sl vl vu .none)(pl:Vw vl lo)(pu:Vw vu hi)
  (hw:sIx items.size 0 lo=0/\sIx items.size items.size hi=items.size) (h:Q (.ref t) s):UW #[w,w] A (Vq (.ref t) (.ref sl)) Q E s:=by
 erw[id hs,os,Z,aa,ad];have ac:s.TypeIs (.ref sl) "slice":=[os:Z:aa];unfold Vq
 try with_reducible refine Vr ?_
 first|refine A4 (uz ?_)|skip
 refine A4 (TN O.typeIs () ?_)
 refine A4 (vw (name:=G7 "__getitem__") O.typeIs vC
  (vP vC O.typeIs FY ?_ (FL _ _)))
 show UW _ _ (Ts (.ref t)>>=_) _ _ s;refine A4 (rf O ?_);refine A4 (VO ac ?_);rw [A3 ()]
 refine A4 (jL hs pl pu ?_);have U:((((sIx items.size 0 lo:Nat):Int)==0&&(1:Int)==1&&(sIx items.size items.size hi-sIx items.size 0 lo)==items.size)=v_):=by
  rw [hw.1,hw.2];simp
 show UW _ _ (if(((sIx items.size 0 lo:Nat):Int)==0&&(1:Int)==1&&(sIx items.size items.size hi-sIx items.size 0 lo)==items.size)=v_ then _ else _) _ _ s
 rw [A3 U];unfold RI;refine A4 (A4 (VO O.typeIs (uz ?_)));rw [A3 ()]
 exact A4 (UK (uz [0:uz h]))
end
end HT
namespace L2
open PySem PySem.Spec PyProof.Rows
section
variable {X:Cx}
inductive rSlG (K:PySem.W.Frag) (x:V) (lo:Option Int) (hi:Option Int) (H:Hp) (Q:VK):Prop
 |mk (a:_) (xs:_) (_:x= .ref a) (_:SqT K H a xs) (_:(HT.sIx xs.length 0 lo=0/\HT.sIx xs.length xs.length hi=xs.length->Q (.ref a) H)) (_:(¬(HT.sIx xs.length 0 lo=0/\HT.sIx xs.length xs.length hi=xs.length)->∀p,H p=UU->Q (.ref p) (upd H p (.tup (cutV xs lo hi)))))
theorem sl_tupG:SlR X (rSlG X.K):=by
 intro oq s σ H x v vl vu lo hi sl Q I Z hs pl pu h;erw[h,a,xs,rfl,hx,q1,q2];by_cases U:HT.sIx xs.length 0 lo=0/\HT.sIx xs.length xs.length hi=xs.length
 ·cases Z;erw[I.tuple hx,its,r,ht,hz];have O:its.toArray.size=xs.length:=by rw [um];exact r.length.symm
  exists "tuple",_,PyProof.Rows.slot_tuple_getitem.lookup,ht.typeIs;exact HT.getItem_tuple_all ht hs pl pu (by rwa [O]) ⟨.ref a,H,I,1,q1 U⟩
 ·exact sl_tup oq s σ H (.ref a) v vl vu lo hi sl Q I Z hs pl pu ⟨a,xs,1,hx,U,q2 U⟩
inductive rInsert (x:V) (vs:List V) (H:Hp) (Q:VK):Prop
 |mk (l:Addr) (xs:List V) (i:Nat) (y:V) (_:x= .ref l) (_:vs= [.int (i:Int),y]) (_:H l=u_ (.lst xs)) (_:i<=xs.length) (_:xs.length+1<=1000) (_:Q .non (upd H l (.lst (xs.take i++y::xs.drop i))))
theorem mt_insert:MtM X "list.insert" rInsert:=by
 intro oq s σ H x vs v us Q I rx rv h;erw[h,l,xs,i,y,rfl,rfl,hH,hi,hz,q];cases rx;erw[vals2 rv,u,U,rfl,[t,rfl],ry];erw[I.lstM hH,z,its,n,r,hl,e];obtain⟨x,hx⟩:∃x:Int,x=(i:Int):=⟨0⟩;rw [<-hx];have O:¬(!Tt x)=true:=by
  unfold Tt;simp;omega
 have Z:its.toArray.size<=sizeLine:=by rw [um];omega
 have g:= @PySem.AutoSeq1.list_insert_list_int_val_1 l its.toArray n x t U O Z;refine vx F.slot_list_insert [_:e:1] F.entry_list_insert (F.args_list_insert_3 _ _ _) g [e:?_];refine⟨.non,_,I.lset (its':=its.take i++U::its.drop i) hH e ?_ ((r.take i).append (.cons ry (r.drop i))) ?_,1,q⟩
 ·have hk:(if x<0 then(x+((its.toArray.size:Nat):Int)).toNat else min x.toNat its.toArray.size)=i:=by
   rw [A2 (),um]
   omega
  show(its.toArray.extract 0 (if x<0 then(x+((its.toArray.size:Nat):Int)).toNat else min x.toNat its.toArray.size)).push U++its.toArray.extract (if x<0 then(x+((its.toArray.size:Nat):Int)).toNat else min x.toNat its.toArray.size)=_
  rw [hk];apply Array.toList_inj.mp;simp;exact uZ (by rw [vz];exact uh _)
 ·rw [uu,ui,vy,vz];rw [uA];omega
end
noncomputable def Yb (n:Nat):Kd->Str->om Pt
 | .words,z=>u_ (.s z)
 | .box,z=>if z∈BX then u_ (.s z) else UU
 | .line,z=>((V4 n).find? λi:Nat=>decide ((V3 (1+(i:Int)):Str)=z)).map λi:Nat=> .n (1+(i:Int))
noncomputable def Yi (n:Nat):oj Kd->oj Str->om (oj Pt)
 | [],_=>u_ []
 |k::ks,z::zs=>match Yb n k z,Yi n ks zs with
  |some p,u_ ps=>u_ (p::ps)
  |_,_=>UU
 |_::_,[]=>UU
noncomputable def J2 (w:Str):om (oj Kd):=(FRM.find? λx=>decide (x.1=w)).map (·.2)
noncomputable def pcs (ks:oj Kd)(z:Str):oj Str:=spl (if Kd.words∈ks then ks.length else z.length+1) z
noncomputable def ZL (n:Nat)(z:Str):om Rw:=
 if Qx z=v_ then match J2 (hd z) with
  |none=>UU
  |some ks=>if(pcs ks z).length=1+ks.length then(Yi n ks ((pcs ks z).drop 1)).map λl=>(hd z,l) else UU
 else UU
variable {ks:oj Kd}
theorem XY {w:Str}(h:J2 w=u_ ks):(w,ks)∈FRM:=by
 unfold J2 at h;cases e:FRM.find? λx=>decide (x.1=w) with
 |none=>rw [e] at h;cases h
 |some x=>
  rw [e] at h;have O:=GR e;have hm:=vW e;cases h;have:x.1=w:=uj O;subst this;exact hm
theorem wT {w:Str}(h:J2 w=UU):∀x∈FRM,x.1≠w:=by
 unfold J2 at h;rw [Hz,Uf] at h;intro x O e;exact h x O (ub e)
variable {n:Nat}{z:Str}
theorem partOf_ok {m:Nat}{k:Kd}{p:Pt}(U:z.length<=m)(ha:z.cps.toList.all QE=v_)(h:Yb n k z=u_ p):ptOk n m k p/\p.t=z:=by
 cases k with
 |words=>cases h;exact[[U:ha]:1]
 |box=>
  simp only [Yb] at h;by_cases O:z∈BX
  ·rw [A3 O] at h;cases h;exact[O:1]
  ·rw [A2 O] at h;cases h
 |line=>
  simp only [Yb] at h;cases e:(V4 n).find? λi:Nat=>decide ((V3 (1+(i:Int)):Str)=z) with
  |none=>rw [e] at h;cases h
  |some i=>
   rw [e] at h;cases h;have h1:=GR e;have h2:=List.mem_range.mp (vW e);exact[[():()]:uj h1]
theorem W7 {n m:Nat}:∀{ks:oj Kd}{zs:oj Str}{ps:oj Pt},(∀z∈zs,z.length<=m/\z.cps.toList.all QE=v_)->zs.length=ks.length->Yi n ks zs=u_ ps->xF n m ks ps/\ps.map Pt.t=zs
 | [],[],ps,_,_,h=>by cases h;exact[trivial:1]
 | [],_::_,_,_,hl,_=>by simp at hl
 |_::_,[],_,_,hl,_=>by simp at hl
 |k::ks,z::zs,ps,hz,hl,h=>by
  unfold Yi at h;split at h
  ·rename_i p qs h1 h2
   cases h;erw[partOf_ok (hz z uf).1 (hz z uf).2 h1,O,U];obtain⟨b1,b2⟩:=W7 (λy Z=>hz y (uc _ Z)) (by simpa using hl) h2
   exact⟨[O:b1],by rw [uq,U,b2]⟩
  ·cases h
noncomputable def Kr:oj (oj Nat)->oj Nat
 | []=> []
 | [x]=>x
 |x::y::r=>x++32::Kr (y::r)
theorem joinL_cons (x:oj Nat){q:oj (oj Nat)}(O:q≠ []):Kr (x::q)=x++32::Kr q:=by
 cases q with
 |nil=>exact absurd rfl O
 |cons y r=>rfl
theorem Kl:∀(n:Nat) (L:oj Nat),Kr (cutL 32 n L)=L
 |0,L=>by simp [cutL,Kr]
 |n+1,[]=>by simp [cutL,Kr]
 |n+1,a::r=>by
  by_cases h:a=32
  ·have O:=Kl n r;erw[Jw 32 n r,p,q,e];rw [cutL,A3 h,joinL_cons [] (by rw [e];simp),O,h]
   rfl
  ·have O:=Kl (n+1) r;erw[Jw 32 (n+1) r,p,q,e];rw [e] at O;simp only [cutL,A2 h,e];cases q with
   |nil=>simp only [Kr] at O⊢;rw [O]
   |cons y t=>
    simp only [Kr] at O⊢;rw [vQ,O]
theorem join_ofL:∀l:oj (oj Nat),(V2 " " (l.map ofL)).cps.toList=Kr l
 | []=>rfl
 | [x]=>by show(ofL x).cps.toList=x;unfold ofL;simp
 |x::y::r=>by
  have O:=join_ofL (y::r);show(V2 " " (ofL x::ofL y::r.map ofL)).cps.toList=_;rw [Jm];have e:(ofL x).cps.toList=x:=by unfold ofL;simp
  rw [e];show x++32::(V2 " " ((y::r).map ofL)).cps.toList=_;rw [O]
  rfl
theorem spl_back (n:Nat)(z:Str):V2 " " (spl n z)=z:=by
 unfold spl;have h:=join_ofL (cutL 32 n z.cps.toList);rw [Kl] at h;rw [<-Q0 (V2 " " ((cutL 32 n z.cps.toList).map ofL)),h,Q0]
theorem cut_head:∀(n:Nat) (L:oj Nat),∃q,cutL 32 (n+1) L=J1 32 L::q
 |n,[]=>⟨[],by simp [cutL,J1]⟩
 |n,a::r=>by
  by_cases h:a=32
  ·exact⟨cutL 32 n r,by simp [cutL,J1,h]⟩
  ·erw[cut_head n r,q,e];exact⟨q,by simp only [cutL,A2 h,e,J1]⟩
theorem spl_head (n:Nat)(z:Str):∃q,spl (n+1) z=hd z::q:=by
 erw[cut_head n z.cps.toList,q,e];exact⟨q.map ofL,by unfold spl hd;rw [e];rfl⟩
theorem cut_sub:∀(n:Nat) (L:oj Nat),∀p∈cutL 32 n L,p.length<=L.length/\∀c∈p,c∈L
 |0,L=>λp O=>by
  simp [cutL] at O;subst O;exact[uh _:λc U=>U]
 |n+1,[]=>λp O=>by
  simp [cutL] at O;subst O;exact[uh _:λc U=>U]
 |n+1,a::r=>λp O=>by
  by_cases h:a=32
  ·rw [cutL,A3 h] at O;rcases A5.mp O with rfl|O
   ·exact⟨uU _,λc U=>by simp at U⟩
   ·erw[cut_sub n r p O,h1,h2];exact⟨by simp;omega,λc U=>uc _ (h2 c U)⟩
  ·erw[Jw 32 (n+1) r,p0,q,e];have Z:=cut_sub (n+1) r;rw [e] at Z;simp only [cutL,A2 h,e] at O;rcases A5.mp O with rfl|O
   ·erw[Z p0 uf,h1,h2];refine⟨by simp;omega,λc U=> ?_⟩
    rcases A5.mp U with rfl|U
    ·exact uf
    ·exact uc _ (h2 c U)
   ·erw[Z p (uc _ O),h1,h2];exact⟨by simp;omega,λc U=>uc _ (h2 c U)⟩
theorem spl_ok {m:Nat}(hz:z.length<=m)(ha:z.cps.toList.all QE=v_):∀p∈spl n z,p.length<=m/\p.cps.toList.all QE=true:=by
 intro p O;erw[A8.mp O,q,U,rfl];erw[cut_sub n z.cps.toList q U,h1,h2];have e:(ofL q).cps.toList=q:=by unfold ofL;simp
 refine[?_:?_]
 ·have:(ofL q).length=q.length:=by unfold ofL Vx;simp
  rw [this];have:z.cps.toList.length=z.length:=by simp [Vx]
  omega
 ·rw [e,U5];intro c Z;exact List.all_eq_true.mp ha c (h2 c Z)
variable {r:Rw}
theorem rowOf_ok (h:ZL n z=u_ r):j3 n 300 r/\y8 r=z:=by
 unfold ZL at h;split at h
 ·rename_i ht
  have O:=ht;unfold Qx at O;rw [uw,v9] at O;split at h
  ·cases h
  ·rename_i ks hk
   split at h
   ·rename_i hl
    cases e:Yi n ks ((pcs ks z).drop 1) with
    |none=>rw [e] at h;cases h
    |some l=>
     rw [e] at h;cases h;have hm:=XY hk;have U:∀p∈(pcs ks z).drop 1,p.length<=300/\p.cps.toList.all QE=true:=λp Z=>spl_ok O.1 O.2 p (tP Z);obtain⟨a1,a2⟩:=W7 U (by rw [vz,hl];omega) e
     exists [ks:hm:a1];have aa:∃j,(if Kd.words∈ks then ks.length else z.length+1)=j+1:=by
      split
      ·rename_i hw
       exact⟨ks.length-1,by have:=List.length_pos_iff.mpr (λe=>by rw [e] at hw;simp at hw:ks≠ []);omega⟩
      ·exact[z.length:1]
     erw[aa,j,hj];erw[spl_head j z,q,hq];have Z:pcs ks z=hd z::q:=by unfold pcs;rwa [hj]
     have hb:V2 " " (pcs ks z)=z:=spl_back _ z;show V2 " " (hd z::l.map Pt.t)=z;rw [a2];rw [Z] at hb⊢;exact hb
   ·cases h
 ·cases h
section
variable {X:Cx}{oq:oj (o3×Obj)}{σ:St}{H:Hp}{s:o7}
theorem vals_refs:∀{cs:oj o3}{its:oj o6},Vals (cs.map V.ref) its->its=cs.map V1
 | [],_,h=>by cases h;rfl
 |c::cs,_,h=>by
  cases h with
  |cons O U=>
   rw [vals_refs U,show _=V1 c from O]
   rfl
end
section
variable {X:Cx}
theorem zT:∀{ls:oj Str}{its:oj o6},Vals (ls.map V.str) its->HN its ls
 | [],_,h=>by cases h;exact .nil
 |z::ls,_,h=>by
  cases h with
  |cons O U=>
   erw[O,t,e];rw [e];exact .cons z t (zT U)
theorem zX:∀{ls:oj Str}{its:oj o6},HN its ls->Vals (ls.map V.str) its
 |_,_,.nil=> .nil
 |_,_,.cons x t h=> .cons [t:1] (zX h)
theorem Kh:∀{xs:oj V}{us:oj o6},xs.length=us.length->(∀(j:Nat) (x:V) (v:o6),xs[j]? =u_ x->us[j]? =u_ v->RelV x v)->Vals xs us
 | [],[],_,_=> .nil
 |x::xs,u::us,hl,h=> .cons (h 0 x u rfl rfl) (Kh (by simpa using hl) λj y v h1 h2=>h (j+1) y v (by simpa using h1) (by simpa using h2))
 | [],_::_,hl,_=>by simp at hl
 |_::_,[],hl,_=>by simp at hl
theorem call_sortedD (hc:X.calm=v_):Yx X (.builtin "sorted") (λxs H Q=>∃(d:o3) (kvs:oj (Key×V)) (ls:oj Str),xs= [.ref d]/\H d=u_ (.dK kvs)/\kvs.map (·.1)=ls.map UZ/\ls.length<64/\∀(Z:oj Str) (q:o3),Z.Perm ls->Gj Z=v_->H q=UU->Q (.ref q) (upd H q (.lst (Z.map V.str)))):=by
 intro oq s σ H xs us Q I r h;erw[h,d,kvs,ls,rfl,hd,hk,am,q];erw[xw r,u,rfl,ru];cases ru;erw[dk_of I.hok hd,hz,lo,vs,ae,dd];erw[id dd,o,es,ep,ho];have af:s.heap.DictAt (Qo X.prog X.w) d vs ep:=[o:es:ho];have aa:vs.length=ls.length:=by
  have h1:=congrArg VP hk;rw [ua,ua] at h1;rw [<-ae.length,h1]
 refine uX (n:=1) I.tk ?_;refine PySem.Calls.call_function_entry kind_sorted plain_sorted entry_sorted (args_sorted1 _) ?_;unfold g_.«sorted»;refine A4 (m:=checkCount "sorted" 1 1 _) (uz ?_);refine A4 (PySem.W.kdu_collect (A:=X.A.in1) (PySem.W.kdl_dict lo) (I.ok.hd hc) af (by rw [aa,uA];omega) λh' tk U ag O=> ?_)
 have hS:HN U.toList ls:=by
  refine zT (Kh (by rw [ua,vb];exact aa.symm.trans O.1.symm) λj x v hx hv=> ?_)
  rw [uF] at hx;cases ac:ls[j]? with
  |none=>rw [ac] at hx;cases hx
  |some z=>
   rw [ac] at hx;cases hx;obtain⟨k,y,e1,e2⟩:=O.2 j v (by rwa [<-HP])
   have e3:(kvs.map (·.1))[j]? =u_ k:=by
    rw [ae.keys,uF,e1]
    rfl
   rw [hk,uF,ac] at e3;cases e3;rcases Qv (show keyIs (UZ z) v=v_ from e2) with⟨i,t,e4,e5⟩|⟨z',t,e4,e5⟩
   ·cases e4
   ·cases e4;exact[t:e5]
 have ah:U.toList.length=ls.length:=by rw [vb,O.1,aa]
 refine A4 (Hu ?_ (by rw [ah,uA];omega))
 have ad:(h'.push (seqObj "list" U.toList.toArray 0)).get? h'.objs.size=u_ (seqObj "list" U.toList.toArray 0):=uE _ rfl;refine A4 (Vr (vP slot_list_sort [_:ad:1] entry_list_sort (list_sort_treeK strKind_oneLt ad hS.keysOf (λv₁ v₂ rest e=>keyKind_strs (by rwa [<-e])) () λak a1 a2=>[0:?_]) (args_list_sort _)))
 refine uz [0:?_];erw[sorted_out_str hS a1 a2,Z,b1,b2,b3];erw[sortedHeap_at (out:=(arrOf ak).map (·.2)) ad,e,he];have al:Z.length=ls.length:=b2.length_eq;intro htk;have I':Inv X oq σ H {s with heap:=h',toks:=tk}:=I.kept ag
 refine⟨.ref h'.objs.size,_,I'.laid (t':=tk) (o:= .lst (Z.map V.str)) (λb u w=> ?_) (uh _) ⟨?_,_,e,zX b1,he⟩,1,q Z _ b2 b3 (I'.hok.fresh (uh _))⟩
 ·have hb:=uD w;rw [sortedHeap_old (uN hb) (by rw [size_push'];exact Nat.lt_succ_of_lt hb)]
  exact ue _ w
 ·rw [ua,al,uA];omega
noncomputable def Itd (d:o3)(o:Obj):It:=
 ⟨λi H=>∃kvs,H d=u_ (.frz o (.dK kvs))/\i<kvs.length,λi H x H'=>H'=H/\∀kvs,H d=u_ (.frz o (.dK kvs))->(kvs.map λp=>kV p.1)[i]? =u_ x,λi H=>∃kvs,H d=u_ (.frz o (.dK kvs))/\kvs.length<=i⟩
variable {w:og}
theorem pairs_len {P:o9}{es:oj gP}{kvs:oj (Key×o6)}(h:Pairs (Qo P w) es kvs):es.length=kvs.length:=h.length
variable {H:Hp}{h:o8}{o:Obj}{es:Array gP}
theorem frz_at {P:o9}{d:o3}{kvs:oj (Key×V)}{ep:Nat}(ok:HOk P w H h)(e:H d=u_ (.frz o (.dK kvs)))(hd:o.data= .dict es ep):
  (d==Vf)=UV/\∃vs,KV kvs vs/\h.DictAt (Qo P w) d vs ep/\vs.length=es.size/\kvs.length<=sizeLine:=by
 obtain⟨U,hz,lo,vs,r,o',aa,ac,O,c1,Z,c3,c4,c5⟩:=(show yp P w H h d (.frz o (.dK kvs)) from ok d _ e)
 rw [U] at O;cases O;rw [hd] at Z;cases Z;exact⟨lo,vs,r,⟨o,es,U,c1,hd,c3,c4,c5⟩,by rw [<-vb];exact(pairs_len c4).symm,hz⟩
theorem kV_rel {k:Key}{v:o6}(h:keyIs k v=v_):RelV (kV k) v:=by
 rcases Qv h with⟨i,t,rfl,rfl⟩|⟨z,t,rfl,rfl⟩
 ·exact[t:1]
 ·exact[t:1]
variable {K:o0}{tg:Expr}
theorem turn_dict {P:o9}(d it:o3){ep:Nat}(hd:o.data= .dict es ep):Turn P w K tg (Itd d o) [it] it (λi h=>h.IsKeyIter it d i es.size ep) where
 mem:=by simp
 obj:=λi h st b O=>by
  have e:b=it:=by simpa using O
  subst e;erw[st,o,e,c,d];exact⟨o,e,λv z=>by rw [d] at z;cases z⟩
 keep:=λi h h' st k=>by
  erw[st,o,e,c,dd];exact⟨o,k it (by simp) o e,c,dd⟩
 item:=by
  intro X hP hw hK hc i oq s σ H E I hf st hg;subst hP hw hK;erw[hg,kvs,hq,hx];erw[frz_at I.hok hq hd,lo,vs,r,U,hl,_];have ad:=r.length;obtain⟨f0,f1,f2,f3,f4,f5⟩:=hf it (by simp)
  obtain⟨⟨k,v⟩,Z⟩:∃p,vs[i]? =u_ p:=[_:ug ()]
  refine wpAny_pyNext_dict_item (by rwa [hl]) U Z λae h' hk aa sb=> ?_
  have I1:Inv X oq σ H {s with heap:=h'}:=I.turned (t':=s.toks) (λb o O e=>(sb.2 b O).trans e) f0 f1 f3 f4 f5
  erw[id aa,oi,e,c,di];refine⟨ae,1,go_of (s:={s with heap:=h'}) e c di () ⟨kV k,H,I1,kV_rel hk,[1:λaf ac=> ?_],by rw [<-hl];exact aa,λb O=>(hf b O).1⟩⟩
  rw [hq] at ac;cases ac;have e3:(kvs.map (·.1))[i]? =u_ k:=by
   rw [r.keys,uF,Z]
   rfl
  rw [uF] at e3⊢;cases h4:kvs[i]? with
  |none=>rw [h4] at e3;cases e3
  |some p=>
   rw [h4] at e3;cases e3
   rfl
 done:=by
  intro X hP hw hK hc i oq s σ H E I hf st hg;subst hP hw hK;erw[hg,kvs,hq,hx];erw[frz_at I.hok hq hd,lo,vs,r,U,hl,_];have ad:=r.length;obtain⟨f0,f1,f2,f3,f4,f5⟩:=hf it (by simp)
  exact wpAny_pyNext_dict_end (I.ok.hd hc) (by rwa [hl]) U (FR ()) λh' eb=>[1:I.turned (t':=s.toks) (λb o O e=>eb b o O e) f0 f1 f3 f4 f5]
 self:=λ_ _ _ _ _ st h=>wpAny_pyIter_keyiter st h
noncomputable def iDicF (tl:TE):TI:=λσ H R=>tl σ H λx H1=>∃d o kvs,x= .ref d/\H1 d=u_ (.frz o (.dK kvs))/\R (Itd d o) H1
theorem pi_dicF {tg l:Expr}{tl:TE}(Z:PE X l tl):PI X tg l (iDicF tl):=by
 intro oq s σ H R I h;refine thn (Z oq s σ H _ I h) λv s1 zq=> ?_;erw[zq,x,H1,O,r1,q1];erw[q1,d,o,kvs,rfl,hq,q];cases r1;obtain⟨ho,_,lo,vs,r,o',es,ep,U,c1,c2,_⟩:=(show yp X.prog X.w H1 s1.heap d (.frz o (.dK kvs)) from O.hok d _ hq)
 rw [ho] at U;cases U;erw[frz_at O.hok hq c2,lo,vs,r,aa,Z,_];refine wpAny_pyIter_dict lo aa ?_;refine⟨s1.heap.objs.size,[s1.heap.objs.size],_,_,H1,1,O.kept (t':=s1.toks) λb o e=>ue _ e,turn_dict d _ c2,⟨_,uE _ rfl,1,by rw [Z];rfl⟩,λb hb=> ?_,q⟩
 have e:b=s1.heap.objs.size:=by simpa using hb
 subst e;exact O.fpOk (uh _) (O.hok.fresh (uh _))
end
end L2
namespace PySem.AwK
open PySem Builtin Builtin.ObjectAttr
theorem lk_keys:Hc (.type "list") "keys"=pure none:=by rw [Fw,r6];kernel_rfl
section
variable {prog:o9}{w:og}{A:oh}{E:o6->o7->Prop}{s:o7}
theorem Kj:isSubtype (.type "AttributeError") (.type "AttributeError")=pure true:=by rw [isSubtype_type];kernel_rfl
theorem raise_attr {α:Type}{o:o6}{name O:Str}{Q:α->o7->Prop}(hh:A.handled=UU)(hm:O.length<=UY)
  (hq:∀h' ac e,(∀b ob,s.heap.get? b=u_ ob->h'.get? b=u_ ob)->(∃oe,h'.get? e=u_ oe/\oe.cls= .type "AttributeError")->E (.ref e) {s with heap:=h',toks:=ac}):
  UW #[w,w] A (Tb o name O:Sem α) Q E s:=by
 unfold Tb;refine A4 (wpAny_mkStr (A4 ?_) hm);unfold newExc newTuple;refine A4 (vj ?_ (by show(1:Nat)<=UY;rw [uA];decide))
 refine A4 (m:=tS _ _) (tT (a:=Vy) (by kernel_rfl) ?_)
 obtain⟨h1,aa⟩:∃h1,h1=s.heap.push {cls:= .type "tuple",data:= .seq #[Vh O s.toks]}:=⟨0⟩;have k1:∀b ob,s.heap.get? b=u_ ob->h1.get? b=u_ ob:=λb ob e=>by rw [aa];exact ue _ e
 show UW #[w,w] A (newObj (.type "AttributeError") (.fields #[.ref s.heap.objs.size,.none,.none,.none,.bool UV,.none,VB,VB])) _ E {s with heap:=s.heap.push {cls:= .type "tuple",data:= .seq #[Vh O s.toks]},toks:=s.toks+1}
 rw [<-aa];refine vj ?_ (by unfold sizeOk;first|trivial|(rw [uA];simp)|decide)
 obtain⟨h2,U⟩:∃h2,h2=h1.push {cls:= .type "AttributeError",data:= .fields #[.ref s.heap.objs.size,.none,.none,.none,.bool UV,.none,VB,VB]}:=⟨0⟩;have k2:∀b ob,h1.get? b=u_ ob->h2.get? b=u_ ob:=λb ob e=>by rw [U];exact ue _ e
 have Z:h2.get? h1.objs.size=u_ {cls:= .type "AttributeError",data:= .fields #[.ref s.heap.objs.size,.none,.none,.none,.bool UV,.none,VB,VB]}:=by rw [U];exact uE _ rfl
 show UW #[w,w] A (do let x<-mkText name;noteAttr (.ref h1.objs.size) o x;raiseNew (.ref h1.objs.size)) Q E {s with heap:=h1.push {cls:= .type "AttributeError",data:= .fields #[.ref s.heap.objs.size,.none,.none,.none,.bool UV,.none,VB,VB]},toks:=s.toks+1}
 rw [<-U];have ne:∀b ob,h1.get? b=u_ ob->b≠h1.objs.size:=λb ob e=>uN (uD e);generalize h1.objs.size=e at Z ne⊢;refine A4 (FV (A4 ?_));have hT:∀g d t os,(⟨h2,g,d,t,os⟩:o7).TypeIs (.ref e) "AttributeError":=λ_ _ _ _=>[_:Z:1];unfold noteAttr lacksNameAndObj;refine A4 (A4 (UP (hT _ _ _ _) Kj ?_));simp only [Bool.not_true,UA,if_false];refine A4 (hZ Z ?_);dsimp only;rw [A2 (by simp [VB,VI]),A2 (by simp [VB,doubtfulMember,VI])]
 refine uz ?_;rw [A3 rfl];refine A4 (UK (A4 (VO (hT _ _ _ _) ?_)));show UW #[w,w] A (layMembers e 6 #[Vh name (s.toks+1),o]) _ E _;unfold layMembers;refine A4 (hZ Z ?_);dsimp only;refine wpAny_update Z ?_;have e3:=Hm (FA λvs=>vs.extract 0 6++ #[Vh name (s.toks+1),o]) Z rfl;have k3:∀b ob,b≠e->h2.get? b=u_ ob->(h2.update e (FA λvs=>vs.extract 0 6++ #[Vh name (s.toks+1),o])).get? b=u_ ob:=λb ob hb q=>(tt _ _ (Up hb)).trans q;exact wpAny_raiseNew_none hh (hq _ _ e (λb ob q=>k3 b ob (ne b ob (k1 b ob q)) (k2 b ob (k1 b ob q))) [_:e3:1])
end
section
variable {prog:o9}{w:og}{A:oh}{E:o6->o7->Prop}{h:o8}{g:Array T2}{d:Drawn}{t:Nat}{os:OsState}{a:o3}{its:Array o6}{n:Nat}{sl:Array (om o6)}
theorem nk_entry {tk:Tok}{Q:Fin->o7->Prop}(Z:A.handled=UU)(hx:h.get? a=u_ {cls:= .type "list",dict:=UU,data:= .seq its n,slots:=sl})
  (hq:∀h' O e,(∀b ob,h.get? b=u_ ob->h'.get? b=u_ ob)->(∃U,h'.get? e=u_ U/\U.cls= .type "AttributeError")->E (.ref e) ⟨h',g,d,O,os⟩):
  UW #[w,w] A (g_.«object.__getattribute__» [[.ref a,.str "keys" tk]:[]]) Q E ⟨h,g,d,t,os⟩:=by
 have hT:(⟨h,g,d,t,os⟩:o7).TypeIs (.ref a) "list":=[_:hx:1];have f4:=lk_keys
 repeat (any_goals (first|assumption|wp_step))
 exact raise_attr Z (by rw [uA];decide+kernel) hq
theorem nk_call {tk:Tok}{R:VX->o7->Prop}(hh:A.handled=UU)(U:h.get? a=u_ {cls:= .type "list",dict:=UU,data:= .seq its n,slots:=sl})
  (hq:∀h' O e,(∀b ob,h.get? b=u_ ob->h'.get? b=u_ ob)->(∃Z,h'.get? e=u_ Z/\Z.cls= .type "AttributeError")->R (.error (.ref e)) ⟨h',g,d,O,os⟩):
  Vn #[w,w] A (.call (.builtin "list.__getattribute__") [[.ref a,.str "keys" tk]:[]]) R ⟨h,g,d,t,os⟩:=
 codeAny_call_builtin F.slot_list_getattribute.plain F.entry_list_ga (F.slot_list_getattribute.check _ _ _ _ _ _ _ _ (show(⟨h,g,d,t,os⟩:o7).TypeIs (.ref a) "list" from[_:U:1]) (F.args_list_getattribute_2 _ _) (nk_entry hh U hq))
theorem no_keys {Q:om o6->o7->Prop}(hh:A.handled=UU)(U:h.get? a=u_ {cls:= .type "list",dict:=UU,data:= .seq its n,slots:=sl})
  (hq:∀h' O,(∀b ob,h.get? b=u_ ob->h'.get? b=u_ ob)->Q UU ⟨h',g,d,O,os⟩):UW #[w,w] A (getAttr? (.ref a) "keys") Q E ⟨h,g,d,t,os⟩:=by
 have hT:∀t,(⟨h,g,d,t,os⟩:o7).TypeIs (.ref a) "list":=λt=>[_:U:1];unfold getAttr? getAttrBy?;refine A4 (FV (A4 (GE ?_)));unfold getAttrBy;refine Vr (A4 (VO (hT _) ?_));rw [F.slot_list_getattribute.lookup];refine A4 (uz ?_);show UW #[w,w] A (rK (.ref a) _ (.type "list") (.builtin "list.__getattribute__") UV UV) _ _ _;unfold rK;refine A4 (m:=hookBefore _) (uz ?_);refine A4 (GE (Vr ?_));show UW #[w,w] A (rF (.builtin "list.__getattribute__") (.ref a) _) _ _ _;unfold rF;rw [F.slot_list_getattribute.bind];refine A4 (uz (HI (nk_call hh U λh' O e k zq=> ?_)));erw[zq,oe,e1,e2];have Z:∀t,(⟨h',g,d,t,os⟩:o7).TypeIs (.ref e) "AttributeError":=λt=>[_:e1:e2];show UW #[w,w] A (Tz (.ref a) _ (.type "list") (.ref e) UU UV UV) _ _ ⟨h',g,d,O,os⟩;unfold Tz;refine A4 (UP (Z _) Kj ?_);rw [A3 rfl];have lg:hookBehind (.type "list") UU=pure none:=by
  show Hc (.type "list") "__getattr__"=pure UU;rw [Fw,r6]
  kernel_rfl
 rw [lg];refine A4 (uz ?_);show UW #[w,w] A (R9 (.ref a) _ (.ref e) UV UV) _ _ _;unfold R9;refine R7 ?_;refine A4 (UP (Z _) Kj ?_);rw [A3 rfl];exact uz (hq h' O k)
end
theorem Wz:entryFor table "dict.update.loop"=u_ g_.«dict.update.loop»:=entryFor_of_fast (by kernel_rfl)
theorem JP:plainId "dict.update.loop"=true:=by decide+kernel
section
variable {prog:o9}{w:og}{A:oh}{E:o6->o7->Prop}{K:Type}[DecidableEq K]{knd:KeyKind prog w K}
noncomputable def addAll (cur:oj (K×o6)):oj (K×o6)->oj (K×o6)
 | []=>cur
 |p::r=>addAll (VZ cur p.1 p.2) r
structure PairAt (h:o8)(d it:o3)(v:o6)(p:K×o6):Prop where
 at_:∃(t:o3) (o:Obj) (k:o6) (n:Nat),v= .ref t/\t≠d/\t≠it/\h.get? t=u_ o/\o.cls= .type "tuple"/\o.data= .seq #[k,p.2] n/\knd.is p.1 k=v_
theorem pairs_loop (hh:A.handled=UU){d it l:o3}{items:Array o6}{ps:oj (K×o6)}{R:VX->o7->Prop}(aq:d≠l)(au:it≠l)(aa:d≠it)(hn:items.size=ps.length)(hz:2*ps.length<=UY)(res:o6):
  ∀(m i:Nat) (s:o7) (O:oj (K×o6)),i+m=ps.length->s.heap.IsListIter it l i->s.heap.IsList l items->s.heap.DictOf knd d O->O.length<=i->
  (∀(j:Nat) (v:o6) (p:K×o6),items[j]? =u_ v->ps[j]? =u_ p->PairAt (knd:=knd) s.heap d it v p)->
  (∀h' ac,h'.DictOf knd d (addAll O (ps.drop i))->(∀b o,b≠d->b≠it->s.heap.get? b=u_ o->h'.get? b=u_ o)->R (.ok (.ret res)) {s with heap:=h',toks:=ac})->
  Vn #[w,w] A (.builtin "dict.update.loop" [[.ref d,.ref it,VI i,res]:[]]) R s:=by
 intro m
 induction m with
 |zero=>
  intro i s O hm ad hl hd hc hp hR;refine HD Wz ?_;rw [HY JP _];show UW _ A.in1 (VJ (.ref it)>>=_) _ _ s;refine A4 (rQ (A:=A.in1) hh ad hl (by rw [Array.getElem?_eq_none ()]) λh' eb=> ?_)
  have ae:h'.DictOf knd d O:=by
   erw[hd,o,es,ep,ho,r];exact⟨o,es,ep,eb d o aa ho,r⟩
  have:=hR h' s.toks (by rwa [List.drop_eq_nil_of_le ()]) λb o Z U e=>eb b o U e
  show UW #[w,w] A.in1 (Dict.addKeywords d []>>=λ_=>ret res) _ _ _;refine A4 (m:=Dict.addKeywords d []) (uz ?_);exact uz this
 |succ m ih=>
  intro i s O hm ad hl hd hc hp hR;refine HD Wz ?_;rw [HY JP _];have hi:i<items.size:=by omega
  have ag:i<ps.length:=by omega
  have hx:items[i]? =u_ items[i]:=Array.getElem?_eq_getElem hi;have aw:ps[i]? =u_ ps[i]:=ug ag;erw[(hp i _ _ hx aw).at_,t,o,k,n,ev,aD,ax,ho,ay,aA,hk];rw [ev] at hx;show UW _ A.in1 (VJ (.ref it)>>=_) _ _ s;refine A4 (Fs (A:=A.in1) ad hl hx λh1 ah af=> ?_);have ak:h1.get? t=u_ o:=(af.2 t ax).trans ho;have hT:(({s with heap:=h1}:o7)).TypeIs (.ref t) "tuple":=[_:ak:ay]
  have al:h1.DictOf knd d O:=hd.sameBut af aa;dsimp only;refine A4 (Vr (A4 (wpAny_tryCatch ?_)));unfold Dict.pairItems;refine A4 (VO hT ?_);rw [A3 ()]
  refine A4 ?_;unfold HH;refine A4 (hZ ak ?_);rw [aA];refine uz (uz ?_);show UW #[w,w] A.in1 (VV [k,ps[i].2] (dictSet d k ps[i].2)) _ _ _;refine Vr (wpAny_dictSet_pairs hk al (λh2 aB am=> ?_) ())
  have ao:h2.IsListIter it l (i+1):=by
   erw[ah,oi,e,c];exact[oi:(am.2 it (Up aa)).trans e:c]
  have keep:∀b ob,b≠d->b≠it->s.heap.get? b=u_ ob->h2.get? b=u_ ob:=λb ob Z U e=>(am.2 b Z).trans ((af.2 b U).trans e);have aC:h2.IsList l items:=by
   erw[hl,ol,e,c];exact[ol:keep l ol (Up aq) (Up au) e:c]
  refine uz [Hx JP _:?_];have ap:(VZ O ps[i].1 ps[i].2).length<=i+1:=by
   unfold VZ;split
   ·rw [ua];omega
   ·rw [uu];show O.length+1<=i+1;omega
  refine ih (i+1) _ _ () ao aC aB ap (λj v p h1 h2=> ?_) λh' ac ae kp=> ?_
  ·erw[(hp j v p h1 h2).at_,t',o',k',n',e1,e2,e3,e4,e5];exact⟨⟨t',o',k',n',e1,e2,e3,keep t' o' e2 e3 e4,e5⟩⟩
  ·refine hR h' ac ?_ λb ob Z U e=>kp b ob Z U (keep b ob Z U e);rw [ve ag];exact ae
theorem dict_pairs (hh:A.handled=UU){s:o7}{l:o3}{items:Array o6}{n:Nat}{sl:Array (om o6)}{ps:oj (K×o6)}{Q:o6->o7->Prop}(hl:s.heap.get? l=u_ {cls:= .type "list",dict:=UU,data:= .seq items n,slots:=sl})(hn:items.size=ps.length)(hz:2*ps.length<=UY)
  (hp:∀(j:Nat) (v:o6) (p:K×o6),items[j]? =u_ v->ps[j]? =u_ p->∃(t:o3) (o:Obj) (k:o6) (n:Nat),v= .ref t/\s.heap.get? t=u_ o/\o.cls= .type "tuple"/\o.data= .seq #[k,p.2] n/\knd.is p.1 k=v_)
  (hQ:∀h' aa,h'.DictOf knd s.heap.objs.size (addAll [] ps)->(∀b o,s.heap.get? b=u_ o->h'.get? b=u_ o)->Q (.ref s.heap.objs.size) {s with heap:=h',toks:=aa}):
  UW #[w,w] A (call (.type "dict") [.ref l]) Q E s:=by
 refine R8 (Q₁:=λobj s₁=>obj= .ref s.heap.objs.size/\s₁={s with heap:=s.heap.push {cls:= .type "dict",data:= .dict #[]}}) F.kt_called_dict (F.kt_typeCall_dict_1 _) F.entry_dict_init (kt_code_dict_new _ [1:1]) ?_
 rintro obj s₁ ⟨rfl,rfl⟩;have U:(s.heap.push {cls:= .type "dict",data:= .dict #[]}).DictOf knd s.heap.objs.size []:=FG s.heap;exists U.typeIs,F.args_dict_init_2 _ _;unfold g_.«dict.__init__»;refine A4 ?_;unfold Rp;refine A4 (wpAny_notOrdered_dict U.typeIs ?_);refine(show UW _ _ (pure (s.heap.objs.size,[V1 l])) _ _ _ from ?_)
 refine uz ?_;refine(show UW _ _ (TJ "dict.__init__" s.heap.objs.size (.ref l) [] .none) _ _ _ from ?_)
 unfold TJ;have Z:(s.heap.push {cls:= .type "dict",data:= .dict #[]}).get? l=u_ {cls:= .type "list",dict:=UU,data:= .seq items n,slots:=sl}:=ue _ hl;refine A4 (VO (T:="list") [_:Z:1] ?_);rw [A3 ()]
 refine A4 (no_keys (A:=A.in1.in1) hh Z λh2 al k2=> ?_);rw [A3 (show(UU:om o6).isNone=v_ from rfl)]
 have ac:l<s.heap.objs.size:=uD hl;have ae:h2.IsList l items:=⟨_,k2 _ _ Z,1,n,1⟩;refine A4 (UK (A4 (UJ ae ?_)));have ad:h2.DictOf knd s.heap.objs.size []:=by
  erw[U,o,es,ep,ho,r];exact⟨o,es,ep,k2 _ _ ho,r⟩
 have O:s.heap.objs.size<h2.objs.size:=by
  erw[ad,o,es,ep,ho,r];exact uD ho
 have k1:∀b o,s.heap.get? b=u_ o->h2.get? b=u_ o:=λb o e=>k2 b o (ue _ e);have k3:∀b o,h2.get? b=u_ o->(h2.push {cls:= .type "list_iterator",data:= .fields #[.ref l,.int 0 0]}).get? b=u_ o:=λb o e=>ue _ e;have af:(h2.push {cls:= .type "list_iterator",data:= .fields #[.ref l,.int 0 0]}).IsList l items:=⟨_,k3 _ _ (k2 _ _ Z),1,n,1⟩;have ag:(h2.push {cls:= .type "list_iterator",data:= .fields #[.ref l,.int 0 0]}).DictOf knd s.heap.objs.size []:=ad.push _;refine uz [Hx JP _:pairs_loop (A:=A.in1) hh (d:=s.heap.objs.size) (it:=h2.objs.size) (l:=l) (items:=items) (ps:=ps) (Uh ac) (Uh (GQ ac O)) (uN O) hn hz .none ps.length 0 _ [] () ⟨_,uE _ rfl,1,1⟩ af ag (uh _) (λj v p h1 ah=> ?_) λh' aa ak kp=> ?_]
 ·erw[hp j v p h1 ah,t,o,k,n',e1,e2,e3,e4,e5];have ht:=uD e2;exact⟨⟨t,o,k,n',e1,uN ht,uN (GQ ht O),k3 _ _ (k1 _ _ e2),e3,e4,e5⟩⟩
 ·refine[1:hQ h' aa ak λb o e=> ?_];have hb:=uD e;exact kp b o (uN hb) (uN (GQ hb O)) (k3 _ _ (k1 _ _ e))
end
end PySem.AwK
namespace L2
open PySem PySem.Spec PyProof.Rows
section
variable {X:Cx}
noncomputable def inrK (ps:oj (Str×V)):oj (Key×V):=ps.map λp=>(UZ p.1,p.2)
theorem wF (ps:oj (Str×V)):(inrK ps).map (·.1)=(ps.map (·.1)).map Sum.inr:=by
 unfold inrK;rw [uJ,uJ]
 rfl
theorem stored_new {kvs:oj (Key×o6)}{k:Key}{v:o6}(h:k∉kvs.map (·.1)):VZ kvs k v=kvs++ [(k,v)]:=by
 unfold VZ;rw [A2];intro q;erw[List.any_eq_true.mp q,p,O,e];exact h (A8.mpr [p:O:uj e])
theorem WE:∀{ps O:oj (Key×o6)},((O++ps).map (·.1)).Nodup->AwK.addAll O ps=O++ps
 | [],O,_=>(v6 O).symm
 |p::r,O,h=>by
  unfold AwK.addAll;have U:p.1∉O.map (·.1):=by
   rw [ur,uq] at h;intro q;exact(List.nodup_append.mp h).2.2 _ q _ uf rfl
  rw [stored_new U,WE (by rw [vL];exact h),vL]
  rfl
theorem pairs_are {P:o9}{w:og}{H:Hp}{h:o8}(ok:HOk P w H h):∀{ts:oj o3}{ps:oj (Str×V)},ts.length=ps.length->(∀(i:Nat) (t:o3) (p:Str×V),ts[i]? =u_ t->ps[i]? =u_ p->H t=u_ (.tup [.str p.1,p.2]))->
  ∃pv:oj (Key×o6),KV (inrK ps) pv/\∀(j:Nat) (v:o6) (p:Key×o6),(ts.map V1)[j]? =u_ v->pv[j]? =u_ p->∃(t:o3) (o:Obj) (k:o6) (n:Nat),v= .ref t/\h.get? t=u_ o/\o.cls= .type "tuple"/\o.data= .seq #[k,p.2] n/\(Qo P w).is p.1 k=v_
 | [],[],_,_=>⟨[],.nil,λj v p e=>by simp at e⟩
 |t::ts,p::ps,hl,hp=>by
  obtain⟨pv,h1,h2⟩:=pairs_are ok (ts:=ts) (ps:=ps) (by simpa using hl) λi t' p' O U=>hp (i+1) t' p' (by simpa using O) (by simpa using U)
  obtain⟨_,its,rv,o,Z,hc,n,hd⟩:=(show yp P w H h t (.tup [.str p.1,p.2]) from ok t _ (hp 0 t p rfl rfl))
  cases rv with
  |cons r1 rv=>
  cases rv with
  |cons r2 rv=>
  cases rv with
  |nil=>
  erw[r1,tk,rfl]
  rename_i u
  refine[(UZ p.1,u)::pv:.cons [1:r2] h1:λj v q O U=> ?_];cases j with
  |zero=>
   simp only [uq,List.getElem?_cons_zero,RD] at O U;subst O U;exact⟨t,o,_,n,1,Z,hc,hd,Z7 _ _ _ _⟩
  |succ j=>exact h2 j v q (by simpa using O) (by simpa using U)
 | [],_::_,hl,_=>by simp at hl
 |_::_,[],hl,_=>by simp at hl
noncomputable def PairsL (H:Hp)(l:o3)(ps:oj (Str×V)):Prop:=∃ts:oj o3,H l=u_ (.lst (ts.map V.ref))/\ts.length=ps.length/\∀(i:Nat) (t:o3) (p:Str×V),ts[i]? =u_ t->ps[i]? =u_ p->H t=u_ (.tup [.str p.1,p.2])
theorem dict_of {oq:oj (o3×Obj)}{σ:St}{H:Hp}{s:o7}{l:o3}{ps:oj (Str×V)}{Q:o6->o7->Prop}(hc:X.calm=v_)(I:Inv X oq σ H s)(hl:PairsL H l ps)(hn:(ps.map (·.1)).Nodup)(hz:ps.length<=1000)
  (h:∀h' O pv,0<O->(∀b o,s.heap.get? b=u_ o->h'.get? b=u_ o)->KV (inrK ps) pv->h'.DictOf (Qo X.prog X.w) s.heap.objs.size pv->Q (.ref s.heap.objs.size) {s with heap:=h',toks:=O}):
  UW #[X,X] X.A (call (.type "dict") [.ref l]) Q X.xe s:=by
 erw[hl,ts,e1,e2,e3];obtain⟨_,its,n,rv,ho⟩:=(show yp X.prog X.w H s.heap l (.lst (ts.map V.ref)) from I.hok l _ e1)
 cases vals_refs rv;erw[pairs_are I.hok e2 e3,pv,r,hp];have ac:pv.length=ps.length:=by
  rw [<-r.length];unfold inrK;rw [ua]
 have Z:(pv.map (·.1)).Nodup:=by
  rw [<-r.keys,wF];exact Rk _ (λa b aa e=>aa (Ug e)) hn
 refine uX (n:=1) I.tk ?_;refine AwK.dict_pairs (knd:=Qo X.prog X.w) (I.ok.hd hc) (ps:=pv) ho (by rw [um,ua];omega) (by rw [uA];omega) (λj v p h1 h2=>hp j v p (by simpa using h1) h2) λh' O U kp=> ?_
 rw [WE (by simpa using Z),List.nil_append] at U
 exact λhtk=>h h' O pv htk kp r U
theorem call_dictP (Z:X.calm=v_):Yx X (.type "dict") (λxs H Q=>∃(l:o3) (ps:oj (Str×V)),xs= [.ref l]/\PairsL H l ps/\(ps.map (·.1)).Nodup/\ps.length<=1000/\∀q,H q=UU->Q (.ref q) (upd H q (.dK (inrK ps)))):=by
 intro oq s σ H xs us Q I r h;erw[h,l,ps,rfl,hl,hn,hz,q];erw[xw r,u,rfl,ru];cases ru;refine dict_of Z I hl hn hz λh' aa pv htk kp rel dd=> ?_;have O:(s.heap.objs.size==Vf)=false:=by
  rw [Ut];exact Uh I.big
 have U:(inrK ps).length<=sizeLine:=by unfold inrK;rw [ua,uA];omega
 exact⟨.ref s.heap.objs.size,_,I.laid kp (uh _) (dk_new U O rel dd),1,q _ I.fresh⟩
theorem call_dictF (Z:X.calm=v_):Yx X (.type "dict") (λxs H Q=>∃(l:o3) (ps:oj (Str×V)),xs= [.ref l]/\PairsL H l ps/\(ps.map (·.1)).Nodup/\ps.length<=1000/\∀q o,H q=UU->Q (.ref q) (upd H q (.frz o (.dK (inrK ps))))):=by
 intro oq s σ H xs us Q I r h;erw[h,l,ps,rfl,hl,hn,hz,q];erw[xw r,u,rfl,ru];cases ru;refine dict_of Z I hl hn hz λh' aa pv htk kp rel dd=> ?_;have O:(s.heap.objs.size==Vf)=false:=by
  rw [Ut];exact Uh I.big
 have U:(inrK ps).length<=sizeLine:=by unfold inrK;rw [ua,uA];omega
 erw[id dd,o,es,ep,ho,rr];exact⟨.ref s.heap.objs.size,_,I.laid (o:= .frz o (.dK (inrK ps))) kp (uh _) [ho:dk_new U O rel dd],1,q _ o I.fresh⟩
end
mutual
noncomputable def puD:D->Bool
 | .str _=>v_
 | .int _=>v_
 | .tup xs=>puL xs
 |_=>UV
noncomputable def puL:oj D->Bool
 | []=>v_
 |x::r=>puD x&&puL r
end
mutual
noncomputable def eqD:D->D->Bool
 | .str a,.str b=>a==b
 | .int a,.int b=>a==b
 | .tup xs,.tup ys=>eqL xs ys
 |_,_=>UV
noncomputable def eqL:oj D->oj D->Bool
 | [],[]=>v_
 |x::r,y::q=>eqD x y&&eqL r q
 |_,_=>UV
end
mutual
theorem eqD_iff:∀{d e:D},puD d=v_->(eqD d e=v_↔d=e)
 | .str a,e,_=>by cases e<;>simp [eqD]
 | .int a,e,_=>by cases e<;>simp [eqD]
 | .tup xs,.tup ys,h=>by
  have:=eqL_iff (xs:=xs) (ys:=ys) (by simpa [puD] using h)
  simp only [eqD,this,D.tup.injEq]
 | .tup xs,.non,_=>by simp [eqD]
 | .tup xs,.bl _,_=>by simp [eqD]
 | .tup xs,.int _,_=>by simp [eqD]
 | .tup xs,.str _,_=>by simp [eqD]
 | .tup xs,.lst,_=>by simp [eqD]
 | .tup xs,.dct,_=>by simp [eqD]
 | .non,_,h=>by simp [puD] at h
 | .bl _,_,h=>by simp [puD] at h
 | .lst,_,h=>by simp [puD] at h
 | .dct,_,h=>by simp [puD] at h
theorem eqL_iff:∀{xs ys:oj D},puL xs=v_->(eqL xs ys=v_↔xs=ys)
 | [],[],_=>by simp [eqL]
 | [],_::_,_=>by simp [eqL]
 |_::_,[],_=>by simp [eqL]
 |x::r,y::q,h=>by
  have h':puD x=v_/\puL r=true:=by simpa [puL] using h
  simp only [eqL,uw,eqD_iff h'.1,eqL_iff h'.2,UE]
end
mutual
theorem Is.det {H:Hp}:∀{d e:D}{v:V},puD d=v_->puD e=v_->Is H d v->Is H e v->d=e
 | .str a,e,v,_,he,h1,h2=>by
  obtain⟨rfl,_⟩:=(show v= .str a/\_ from h1)
  cases e with
  |str b=>obtain⟨q,_⟩:=(show V.str a=V.str b/\_ from h2);cases q;rfl
  |int b=>cases(show V.str a=V.int b from h2)
  |tup ys=>obtain⟨p,us,q,_⟩:=(show∃p us,V.str a=V.ref p/\_ from h2);cases q
  |_=>simp [puD] at he
 | .int a,e,v,_,he,h1,h2=>by
  cases(show v= .int a from h1)
  cases e with
  |str b=>obtain⟨q,_⟩:=(show V.int a=V.str b/\_ from h2);cases q
  |int b=>cases(show V.int a=V.int b from h2);rfl
  |tup ys=>obtain⟨p,us,q,_⟩:=(show∃p us,V.int a=V.ref p/\_ from h2);cases q
  |_=>simp [puD] at he
 | .tup xs,e,v,hd,he,h1,h2=>by
  obtain⟨p,vs,rfl,Z,hl⟩:=(show∃p vs,v=V.ref p/\H p=u_ (.tup vs)/\IsL H xs vs from h1)
  cases e with
  |str b=>obtain⟨q,_⟩:=(show V.ref p=V.str b/\_ from h2);cases q
  |int b=>cases(show V.ref p=V.int b from h2)
  |tup ys=>
   obtain⟨p',us,q,O,U⟩:=(show∃p' us,V.ref p=V.ref p'/\H p'=u_ (.tup us)/\IsL H ys us from h2)
   cases q;rw [Z] at O;cases O;rw [IsL.det (by simpa [puD] using hd) (by simpa [puD] using he) hl U]
  |_=>simp [puD] at he
 | .non,_,_,hd,_,_,_=>by simp [puD] at hd
 | .bl _,_,_,hd,_,_,_=>by simp [puD] at hd
 | .lst,_,_,hd,_,_,_=>by simp [puD] at hd
 | .dct,_,_,hd,_,_,_=>by simp [puD] at hd
theorem IsL.det {H:Hp}:∀{xs ys:oj D}{vs:oj V},puL xs=v_->puL ys=v_->IsL H xs vs->IsL H ys vs->xs=ys
 | [],[],_,_,_,_,_=>rfl
 | [],_::_,_,_,_,h1,h2=>by
  cases(show _= [] from h1)
  obtain⟨v,r,q,_⟩:=(show∃v r,[]=v::r/\_ from h2)
  cases q
 |_::_,[],_,_,_,h1,h2=>by
  cases(show _= [] from h2)
  obtain⟨v,r,q,_⟩:=(show∃v r,[]=v::r/\_ from h1)
  cases q
 |x::xs,y::ys,_,hd,he,h1,h2=>by
  erw[h1,v,r,rfl,Z,a2];erw[h2,v',r',q,b1,b2];cases q;have O:puD x=v_/\puL xs=true:=by simpa [puL] using hd
  have U:puD y=v_/\puL ys=true:=by simpa [puL] using he
  rw [Is.det O.1 U.1 Z b1,IsL.det O.2 U.2 a2 b2]
end
theorem eqL_all:∀(xs ys:oj D),eqL xs ys=((V4 (min xs.length ys.length)).all (λj=>eqD (xs.getD j .non) (ys.getD j .non))&&xs.length==ys.length)
 | [],[]=>by simp [eqL]
 | [],_::_=>by simp [eqL]
 |_::_,[]=>by simp [eqL]
 |x::r,y::q=>by
  have O:=eqL_all r q;rw [ui,ui,show min (r.length+1) (q.length+1)=min r.length q.length+1 by omega,tD,vn,U2]
  have e:(V4 (min r.length q.length)).all ((λj=>eqD ((x::r).getD j .non) ((y::q).getD j .non))∘tG)=(V4 (min r.length q.length)).all λj=>eqD (r.getD j .non) (q.getD j .non):=by congr 1
  rw [e];have U:(r.length+1==q.length+1)=(r.length==q.length):=by rw [vF];simp
  rw [U,Tp,<-O]
  rfl
section
variable {X:Cx}{oq:oj (o3×Obj)}{σ:St}{H:Hp}{s:o7}
variable {z:Str}{e:D}{A:oh}
theorem eqAt_str (I:Inv X oq σ H s){t:Tok}{u:V}{b:o6}(U:puD e=v_)(h2:Is H e u)(O:RelV u b)(Z:A.units<V5):Vb A s (.str z t) b (eqD (.str z) e):=by
 cases e with
 |str y=>
  obtain⟨rfl,_⟩:=(show u= .str y/\_ from h2)
  erw[O,t2,rfl];exact UC _ _ _ _
 |int y=>
  cases(show u= .int y from h2)
  erw[O,t2,rfl];exact Ux _ _ _ _
 |tup ys=>
  obtain⟨p,us,rfl,hp,hl⟩:=(show∃p us,u=V.ref p/\H p=u_ (.tup us)/\IsL H ys us from h2)
  cases O;erw[I.tuple (.inl (.of hp)),its,_,q,_];exact Te _ _ q Z
 |_=>simp [puD] at U
theorem eqAt_int (I:Inv X oq σ H s){z:Int}{t:Tok}{u:V}{b:o6}(U:puD e=v_)(h2:Is H e u)(O:RelV u b)(Z:A.units<V5):Vb A s (.int z t) b (eqD (.int z) e):=by
 cases e with
 |str y=>
  obtain⟨rfl,_⟩:=(show u= .str y/\_ from h2)
  erw[O,t2,rfl];exact Uw _ _ _ _
 |int y=>
  cases(show u= .int y from h2)
  erw[O,t2,rfl];exact tL _ _ _ _
 |tup ys=>
  obtain⟨p,us,rfl,hp,hl⟩:=(show∃p us,u=V.ref p/\H p=u_ (.tup us)/\IsL H ys us from h2)
  cases O;erw[I.tuple (.inl (.of hp)),its,_,q,_];exact TC _ _ q Z
 |_=>simp [puD] at U
theorem wn:∀{xs:oj D}{j:Nat}{x:D},puL xs=v_->xs[j]? =u_ x->puD x=v_
 | [],_,_,_,e=>by simp at e
 |y::r,0,x,h,e=>by
  have h':puD y=v_/\puL r=true:=by simpa [puL] using h
  have:y=x:=by simpa using e
  exact this▸h'.1
 |y::r,j+1,x,h,e=>by
  have h':puD y=v_/\puL r=true:=by simpa [puL] using h
  exact wn h'.2 (by simpa using e)
theorem eqAt_tup (I:Inv X oq σ H s){xs:oj D}{e:D}{v u:V}{a b:o6}{A:oh}(hd:puD (.tup xs)=v_)(he:puD e=v_)(h1:Is H (.tup xs) v)(h2:Is H e u)(r1:RelV v a)(r2:RelV u b)(hu:A.units<V5)
  (ih:∀x∈xs,∀(e:D) (v u:V) (a b:o6),puD x=v_->puD e=v_->Is H x v->Is H e u->RelV v a->RelV u b->Vb A.in1 s a b (eqD x e)):Vb A s a b (eqD (.tup xs) e):=by
 obtain⟨p,vs,rfl,hp,hl⟩:=(show∃p vs,v=V.ref p/\H p=u_ (.tup vs)/\IsL H xs vs from h1)
 cases r1;erw[I.tuple (.inl (.of hp)),its,rv,q,_];cases e with
 |str y=>
  obtain⟨rfl,_⟩:=(show u= .str y/\_ from h2)
  erw[r2,t2,rfl];exact TL _ _ q hu
 |int y=>
  cases(show u= .int y from h2)
  erw[r2,t2,rfl];exact rp _ _ q hu
 |tup ys=>
  by_cases hv:V.ref p=u
  ·have:=Is.det (e:= .tup ys) hd he h1 (hv▸h2);subst hv;cases r2;rw [<-this,(eqD_iff hd).mpr rfl];exact GZ _
  ·obtain⟨p',us,rfl,aa,O⟩:=(show∃p' us,u=V.ref p'/\H p'=u_ (.tup us)/\IsL H ys us from h2)
   cases r2;erw[I.tuple (.inl (.of aa)),its',U,q',_];have l1:its.length=xs.length:=by rw [<-rv.length,hl.length]
   have l2:its'.length=ys.length:=by rw [<-U.length,O.length]
   have ac:puL xs=true:=by simpa [puD] using hd
   have ad:puL ys=true:=by simpa [puD] using he
   have ae:=UL (e:=λj=>eqD (xs.getD j .non) (ys.getD j .non)) q q' hu λj a1 a2=>by
    have Z:j<xs.length:=by rw [<-l1];simpa using a1
    have j2:j<ys.length:=by rw [<-l2];simpa using a2
    obtain⟨v1,e1,i1⟩:=hl.get (i:=j) (d:=xs[j]) (by simp [Z])
    obtain⟨v2,e2,i2⟩:=O.get (i:=j) (d:=ys[j]) (by simp [j2])
    erw[rv.get e1,b1,f1,g1];erw[U.get e2,b2,f2,g2];have k1:its.toArray[j]=b1:=by
     have:=f1;rw [ug (by rwa [l1])] at this
     simpa using this
    have k2:its'.toArray[j]=b2:=by
     have:=f2;rw [ug (by rwa [l2])] at this
     simpa using this
    have d1:xs.getD j .non=xs[j]:=by simp [Vz,Z]
    have d2:ys.getD j .non=ys[j]:=by simp [Vz,j2]
    show Vb _ s _ _ (eqD (xs.getD j .non) (ys.getD j .non));rw [k1,k2,d1,d2];exact ih _ (uQ Z) _ _ _ _ _ (wn (j:=j) ac (by simp [Z])) (wn (j:=j) ad (by simp [j2])) i1 i2 g1 g2
   have e1:eqD (.tup xs) (.tup ys)=((V4 (min its.toArray.size its'.toArray.size)).all (λj=>eqD (xs.getD j .non) (ys.getD j .non))&&its.toArray.size==its'.toArray.size):=by
    rw [um,um,l1,l2,<-eqL_all];simp only [eqD]
   rw [e1];exact rn (λz=>hv (by rw [z])) ae
 |_=>simp [puD] at he
theorem eqAt_D (I:Inv X oq σ H s):∀(n:Nat) (d e:D) (v u:V) (a b:o6) (A:oh),dp d<=n->puD d=v_->puD e=v_->Is H d v->Is H e u->RelV v a->RelV u b->A.units+n<V5->Vb A s a b (eqD d e):=by
 intro n
 induction n with
 |zero=>
  intro d e v u a b A hn hd U h1 h2 Z r2 hu;cases d with
  |int z=>
   cases(show v= .int z from h1)
   erw[Z,t,rfl];exact eqAt_int I U h2 r2 hu
  |str z=>simp [dp] at hn
  |tup xs=>simp [dp] at hn
  |_=>simp [puD] at hd
 |succ n ih=>
  intro d e v u a b A hn hd U h1 h2 Z r2 hu;have O:A.units<cLine:=Ud (UQ _ _) hu;cases d with
  |int z=>
   cases(show v= .int z from h1)
   erw[Z,t,rfl];exact eqAt_int I U h2 r2 O
  |str z=>
   obtain⟨rfl,_⟩:=(show v= .str z/\_ from h1)
   erw[Z,t,rfl];exact eqAt_str I U h2 r2 O
  |tup xs=>
   have hm:dpL xs<=n:=by
    have:dp (.tup xs)=1+dpL xs:=by simp only [dp]
    omega
   exact eqAt_tup I hd U h1 h2 Z r2 O λx hx e v u a b k1 k2 k3 k4 k5 k6=>ih x e v u a b A.in1 ((wt xs).mp hm x hx) k1 k2 k3 k4 k5 k6 (by rw [uR];omega)
  |_=>simp [puD] at hd
end
section
variable {X:Cx}
noncomputable def trD:D->Bool
 | .str _=>v_
 | .tup xs=>puL xs
 |_=>UV
variable {oq:oj (o3×Obj)}{σ:St}{H:Hp}{s:o7}{A:oh}{n:Nat}{its:oj o6}
theorem parts_eq (I:Inv X oq σ H s){xs ys:oj D}{vs us:oj V}{its':oj o6}(hn:dpL xs<=n)(hd:puL xs=v_)(he:puL ys=v_)(hl:IsL H xs vs)(O:IsL H ys us)(rv:Vals vs its)(U:Vals us its')(hu:A.units+n<V5):
  ∀j (a1:j<its.toArray.size) (a2:j<its'.toArray.size),Vb A s its.toArray[j] its'.toArray[j] (eqD (xs.getD j .non) (ys.getD j .non)):=λj a1 a2=>by
 have l1:its.length=xs.length:=by rw [<-rv.length,hl.length]
 have l2:its'.length=ys.length:=by rw [<-U.length,O.length]
 have Z:j<xs.length:=by rw [<-l1];simpa using a1
 have j2:j<ys.length:=by rw [<-l2];simpa using a2
 obtain⟨v1,e1,i1⟩:=hl.get (i:=j) (d:=xs[j]) (by simp [Z])
 obtain⟨v2,e2,i2⟩:=O.get (i:=j) (d:=ys[j]) (by simp [j2])
 erw[rv.get e1,b1,f1,g1];erw[U.get e2,b2,f2,g2];have k1:its.toArray[j]=b1:=by
  have:=f1;rw [ug (by rwa [l1])] at this
  simpa using this
 have k2:its'.toArray[j]=b2:=by
  have:=f2;rw [ug (by rwa [l2])] at this
  simpa using this
 have d1:xs.getD j .non=xs[j]:=by simp [Vz,Z]
 have d2:ys.getD j .non=ys[j]:=by simp [Vz,j2]
 rw [k1,k2,d1,d2];exact eqAt_D I n _ _ _ _ _ _ A ((wt xs).mp hn _ (uQ Z)) (wn (j:=j) hd (by simp [Z])) (wn (j:=j) he (by simp [j2])) i1 i2 g1 g2 hu
variable {e:D}{y:V}{u:o6}
theorem rc_D (I:Inv X oq σ H s){d:D}{x:V}{v:o6}(h1:Is H d x)(h2:Is H e y)(p1:trD d=v_)(p2:trD e=v_)(hn:dp d<=60)(rx:RelV x v)(ry:RelV y u)(hu:A.units+64<V5):
  Tg A s v u (eqD d e)/\rV A s v u (!eqD d e):=by
 have O:A.units<cLine:=by omega
 cases d with
 |str z=>
  obtain⟨rfl,_⟩:=(show x= .str z/\_ from h1)
  erw[rx,t,rfl];cases e with
  |str w=>
   obtain⟨rfl,_⟩:=(show y= .str w/\_ from h2)
   erw[ry,t2,rfl];exact[Rm _ _ _ _:Ri _ _ _ _]
  |tup ys=>
   obtain⟨p,us,rfl,hp,hl⟩:=(show∃p us,y=V.ref p/\H p=u_ (.tup us)/\IsL H ys us from h2)
   cases ry;erw[I.tuple (.inl (.of hp)),its,_,q,_];exact[Rx _ _ q O:T_ _ _ q O]
  |_=>simp [trD] at p2
 |tup xs=>
  obtain⟨p,vs,rfl,hp,hl⟩:=(show∃p vs,x=V.ref p/\H p=u_ (.tup vs)/\IsL H xs vs from h1)
  cases rx;erw[I.tuple (.inl (.of hp)),its,rv,q,_];cases e with
  |str w=>
   obtain⟨rfl,_⟩:=(show y= .str w/\_ from h2)
   erw[ry,t2,rfl];exact[Rg _ _ q O:re _ _ q O]
  |tup ys=>
   obtain⟨p',us,rfl,aa,U⟩:=(show∃p' us,y=V.ref p'/\H p'=u_ (.tup us)/\IsL H ys us from h2)
   cases ry;erw[I.tuple (.inl (.of aa)),its',Z,q',_];have hm:dpL xs<=60:=by
    have:dp (.tup xs)=1+dpL xs:=by simp only [dp]
    omega
   have l1:its.length=xs.length:=by rw [<-rv.length,hl.length]
   have l2:its'.length=ys.length:=by rw [<-Z.length,U.length]
   have pe:=parts_eq I (A:=A.in1) hm (by simpa [trD] using p1) (by simpa [trD] using p2) hl U rv Z (by rw [uR];omega)
   have e1:eqD (.tup xs) (.tup ys)=((V4 (min its.toArray.size its'.toArray.size)).all (λj=>eqD (xs.getD j .non) (ys.getD j .non))&&its.toArray.size==its'.toArray.size):=by
    rw [um,um,l1,l2,<-eqL_all];simp only [eqD]
   rw [e1];exact[UL q q' O pe:Tn q q' O pe]
  |_=>simp [trD] at p2
 |_=>simp [trD] at p1
inductive rCmpD (g:Bool->Bool) (x:V) (y:V) (H:Hp) (Q:VK):Prop
 |mk (d e:D) (_:Is H d x) (_:Is H e y) (_:trD d=v_) (_:trD e=v_) (_:dp d<=60) (_:Q (.bl (g (eqD d e))) H)
theorem op_eqD (O:X.A.units+64<V5):OpR X (V6 .Eq) (rCmpD id):=by
 intro oq s σ H x y v u Q I U Z h;erw[h,d,e,h1,h2,p1,p2,hn,q];exact(rc_D I h1 h2 p1 p2 hn U Z O).1 X.prog X.w X.xe _ ⟨.bl _,H,I,1,q⟩
end
variable {X:Cx}
theorem Ju:Yx X (.builtin "len") (λxs H Q=>(∃z:Str,xs= [.str z]/\z.length<=UY/\Q (.int z.length) H)∨∃p ys,xs= [.ref p]/\(SqL X.K H p ys∨SqT X.K H p ys)/\(ys.length<=UY->Q (.int ys.length) H)):=by
 intro oq s σ H xs us Q I r h;rcases h with⟨z,e,O,q⟩|h
 ·exact kU oq s σ H xs us Q I r ⟨_,z.length,e,[O:1],q⟩
 ·exact call_lenB oq s σ H xs us Q I r h
noncomputable def gLstU (K:o0)(n:Nat)(t:TGs):TG:=λv σ H Q=>∃a xs,v= .ref a/\SqL K H a xs/\xs.length=n/\t xs σ H Q
theorem pg_lstU {X:Cx}{es:oj Expr}{k:Nat}{t:TGs}{n:Nat}{pos:Pos}(Z:X.calm=v_)(h:PGs X es t)
  (hn:(VA es X.env).length=n) (O:(VA es X.env).findIdx? (·.1)=UU):PG X (.Tuple es k pos) (gLstU X.K n t):=by
 intro oq s σ H v u Q I r U;erw[U,a,xs,e1,hq,hl,U];subst e1;cases r;erw[I.list hq,its,rv,ht,hz];rw [assign_Tuple];refine A4 (GD ?_);unfold unpack;rw [O,hn,<-hl,show xs.length=its.toArray.size by simp [rv.length]]
 refine A4 (Vr (PySem.W.kun_itemsOf (I.ok.hd Z) ht.isList λh' hx=> ?_));have I1:Inv X oq σ H {s with heap:=h'}:=I.kept (t':=s.toks) λb o e=>hx b o (uN (uD e)) e
 exact h oq _ σ H xs _ Q I1 (by simpa using rv) U
variable {w:og}{K:o0}{mg:Str->om o6}{f:o3}{A:oh}
theorem pass1 {P:o9}{base:o8}{N:oj Str}{qual:Str}{scope:Vd}{cd:o6}{outer:oj Env}{s₀:o7}{H₀:Hp}{E:XK}:
  Xu (CX1 P w) (cxOf (CX1 P w) P w K mg base N qual scope f cd A outer s₀ H₀ E) E:=by
 intro oq σ H s e s' I h;erw[h,ea,C,a0,H',B,rfl,au,ae,htk,aw,al,am,hold,hE];show UW (Va P w) (A.deeper (V0 qual scope s₀.heap.objs.size f cd)) (HG (V0 qual scope s₀.heap.objs.size f cd) (.ref ea)) (λ_ af=>CX1 P w outer H₀ s₀ E (.ref ea) af) (λe' af=>CX1 P w outer H₀ s₀ E e' af) _;have ax:(A.deeper (V0 qual scope s₀.heap.objs.size f cd)).frames=u_ (V0 qual scope s₀.heap.objs.size f cd::outer):=I.ok.frames;have ag:frs (V0 qual scope s₀.heap.objs.size f cd::outer)=s₀.heap.objs.size::frs outer:=rfl;have O:Un (frs outer) [] H₀ H s₀.heap s.heap:=I.base;have U:Un (frs (V0 qual scope s₀.heap.objs.size f cd::outer)) [] H H' s.heap s'.heap:=aw;have aa:Tu B (V0 qual scope s₀.heap.objs.size f cd::outer) ea (.ref C) a0 s'.heap:=am;have ac:∀b o,s.heap.get? b=u_ o->b∉frs (V0 qual scope s₀.heap.objs.size f cd::outer)->∃o',B.get? b=u_ o':=hold;have ay:=aa.2.2.1;have ad:∀b o,s₀.heap.get? b=u_ o->b∉frs outer->b∉frs (V0 qual scope s₀.heap.objs.size f cd::outer):=λb o e hb hm=>by
  rw [ag] at hm;rcases A5.mp hm with rfl|hm
  ·exact absurd (uD e) (vD _)
  ·exact hb hm
 have nd:∀b∈frs outer,∀o,s'.heap.get? b=u_ o->∀vs,o.data≠ .fields vs:=λb hb o e=>by
  obtain⟨_,o',e',hn⟩:=ay.mem (show b∈(V0 qual scope s₀.heap.objs.size f cd::outer).filterMap (·.frame) from by rw [show(V0 qual scope s₀.heap.objs.size f cd::outer).filterMap (·.frame)=frs (V0 qual scope s₀.heap.objs.size f cd::outer) from rfl,ag];exact uc _ hb)
  rw [e] at e';cases e';exact hn
 refine wpAny_leaves_onW (base:=B) (L:=s₀.heap.objs.size) ax rfl aa λaA ah ao=> ?_;have aB:∀b o o',B.get? b=u_ o'->s'.heap.get? b=u_ o->aA.get? b=u_ o:=λb o o' Z e2=>by
  have:=aa.1 b o' Z;rw [e2] at this;cases this;exact ah.1 b o Z
 refine⟨ea,C,a0,H',B,1,au.trans I.os,ae,htk,⟨?_,?_,?_,?_,?_,?_,?_⟩,al,ah,?_,hE⟩
 ·intro b o Z hn hb hx;have e2:=O.keep b o Z hn hb hx;have ak:=O.free b o Z hn hx;have ap:=ad b o Z hb;have e3:=U.keep b o e2 ak ap hx;erw[ac b o e2 ap,o',e4];exact aB b o o' e4 e3
 ·intro b o Z hn hb hx;erw[O.slot b o Z hn hb hx,sl,e2];have ak:=O.free b o Z hn hx;obtain⟨aC,e3⟩:=U.slot b _ e2 ak (by rw [ag];exact uc _ hb) hx
  erw[ao b _ e3 (nd b hb _ e3),aq,e4];exact[aq:e4]
 ·intro b o Z hn hx;erw[O.there b o Z hx,o',e2];exact U.free b o' e2 (O.free b o Z hn hx) hx
 ·intro b o Z hx;erw[O.there b o Z hx,o',e2];by_cases hb:b∈frs outer
  ·erw[U.there b o' e2 hx,o2,e3];erw[ao b _ e3 (nd b hb _ e3),aq,e4];exact[_:e4]
  ·erw[ac b o' e2 (ad b o Z hb),o2,e3];exact[o2:ah.1 b o2 e3]
 ·exact λb xs e=>U.tups b xs (O.tups b xs e)
 ·exact λb o u e=>U.frzs b o u (O.frzs b o u e)
 ·intro b ps e;erw[O.tbls b ps e,m1,Z];erw[U.tbls b _ Z,m2,e2];exact⟨m1++m2,by rwa [<-HA]⟩
 ·intro b o Z hb;obtain⟨o',e2⟩:=O.there b o Z (by simp)
  exact ac b o' e2 (ad b o Z hb)
theorem passF:Xu (CX1 X.prog X.w) X E0:=λ_ _ _ _ _ _ _ h=>by
 erw[h,_,_,_,_,_,_,_,_,_,_,_,_,_,z];exact Vm z
end L2
namespace L2
open PySem PyProof.Rows
variable {H:Hp}{p:o3}
theorem Tk.updD {xs ys:oj (Key×V)}(h:H p=u_ (.dK xs)):Tk H (upd H p (.dK ys)):=by
 refine[λb zs e=> ?_:λb zs e=>[zs:?_]:λb zs e=> ?_]
 ·rw [qk (λz=>by rw [z,h] at e;cases e)];exact e
 ·rw [qk (λz=>by rw [z,h] at e;cases e)];exact e
 ·by_cases z:b=p
  ·exact⟨ys,by rw [z];exact qi⟩
  ·exact⟨zs,by rwa [qk z]⟩
variable {C dx:o3}
theorem Tk.updI {O dx':o3}{xs ys:oj (Str×V)}(h:H p=u_ (.ins C dx xs)):Tk H (upd H p (.ins O dx' ys)):=
 ⟨λb zs e=>by rw [qk (λz=>by rw [z,h] at e;cases e)];exact e,λb zs e=>⟨zs,by rw [qk (λz=>by rw [z,h] at e;cases e)];exact e⟩,λb zs e=>⟨zs,by rw [qk (λz=>by rw [z,h] at e;cases e)];exact e⟩⟩
section
variable {X:Cx}
inductive rStarts (x:V) (vs:List V) (H:Hp) (Q:VK):Prop
 |mk (z y:Str) (_:x= .str z) (_:vs= [.str y]) (_:Q (.bl (VQ z y)) H)
theorem mt_starts:MtM X "str.startswith" rStarts:=by
 intro oq s σ H x vs v us Q I O rv h;erw[h,z,y,rfl,rfl,q];erw[O,t,rfl];erw[rv.one,u,rfl,t',rfl];exact SC.startswith ⟨.bl (VQ z y),H,I,1,q⟩
end
theorem lc_dicF {d A:o3}{o:Obj}{H1:Hp}{tc:TT}{te:TE}{tl:St}{Q:VK}{kvs:oj (Key×V)}{ls:oj Str}(p:Str->Bool)(f:Str->V)(hd:H1 d=u_ (.frz o (.dK kvs)))(hk:kvs.map (·.1)=ls.map UZ)(hn:ls.length<=UY)(hA:H1 A=UU)
  (U:∀z H (R:Bool->Hp->Prop),z∈ls->Same H1 H->R (p z) H->tc (u_ (.str z)::tl) H R)
  (Z:∀z H (R:VK),z∈ls->Same H1 H->R (f z) H->te (u_ (.str z)::tl) H R)
  (hQ:∀H',Same H1 H'->H' A=u_ (.lst ((ls.filter p).map f))->Q (.ref A) H'):lcGo A (Itd d o) (jt 0) tc te (UU::tl) H1 Q:=by
 have ac:kvs.length=ls.length:=by
  have:=congrArg VP hk
  simpa using this
 refine⟨ls.length,λi σ ys H=>(∃w,σ=w::tl)/\ys=((ls.take i).filter p).map f/\Same H1 H,hn,[[UU:1]:1:qh hA _],?_,?_⟩
 ·rintro i σ ys H hi ⟨⟨w,rfl⟩,rfl,sm⟩ O hy;exists [kvs:sm _ _ hd:()]
  rintro x H' ⟨rfl,hx⟩;have e:=hx kvs (sm _ _ hd);have e2:(kvs.map λp=>kV p.1)[i]? =u_ (V.str ls[i]):=by
   have:(kvs.map λp=>kV p.1)=(kvs.map (·.1)).map kV:=by rw [uJ];rfl
   rw [this,hk,uJ,uF,ug hi]
   rfl
  rw [e2] at e;cases e;have et:ls.take (i+1)=ls.take i++ [ls[i]]:=by rw [vq,ug hi];rfl
  have aa:∀ys,Same H1 (upd H' A (.lst ys)):=λys b o' e=>by
   rw [qk (ql e hA)];exact sm _ _ e
  dsimp only [jt,gY];refine U ls[i] H' _ (uQ hi) sm ?_;cases hp:p ls[i] with
  |true=>
   refine iteT (Z ls[i] H' _ (uQ hi) sm ⟨O,⟨0⟩,?_,aa _⟩);rw [et,UF,ur];simp [hp]
  |false=>
   refine iteF ⟨O,⟨0⟩,?_,sm⟩;rw [et,UF,ur];simp [hp]
 ·rintro σ ys H ⟨_,rfl,sm⟩ O;rw [U6] at O;exact[[kvs:sm _ _ hd:()]:hQ H sm O]
theorem lc_strs {K:o0}{a A:o3}{H1:Hp}{te:TE}{tl:St}{Q:VK}{ls:oj Str}(C:Nat->oj V->Hp->Prop)(ha:H1 a=u_ (.lst (ls.map V.str)))(hn:ls.length<=UY)(hA:H1 A=UU)(h0:C 0 [] (upd H1 A (.lst [])))
  (aa:∀i z ys H,ls[i]? =u_ z->C i ys H->H A=u_ (.lst ys)->H a=u_ (.lst (ls.map V.str))->ys.length<=i->∀R:VK,(∀y H4,H4 A=u_ (.lst ys)->H4 a=u_ (.lst (ls.map V.str))->C (i+1) (ys++ [y]) (upd H4 A (.lst (ys++ [y])))->R y H4)->te (u_ (.str z)::tl) H R)
  (hQ:∀ys H,C ls.length ys H->H A=u_ (.lst ys)->Q (.ref A) H):lcGo A (Itl K a) (jt 0) tYes te (UU::tl) H1 Q:=by
 have U:a≠A:=ql ha hA;refine⟨ls.length,λi σ ys H=>(∃w,σ=w::tl)/\C i ys H/\H a=u_ (.lst (ls.map V.str)),hn,⟨[UU:1],h0,by rwa [qk U]⟩,?_,?_⟩
 ·rintro i σ ys H hi ⟨⟨w,rfl⟩,hc,Z⟩ O hy;have e0:(ls.map V.str)[i]? =u_ (V.str ls[i]):=by rw [uF,ug hi];rfl
  exists ⟨_,_,SqL.of Z,e0⟩;rintro x H' ⟨rfl,hx⟩;have e:=hx _ (SqL.of Z);rw [e0] at e;cases e;dsimp only [jt,tYes,gY];rw [A3 rfl];exact aa i ls[i] ys H' (ug hi) hc O Z hy _ λy H4 h4 h5 c4=>⟨h4,⟨0⟩,c4,by rwa [qk U]⟩
 ·rintro σ ys H ⟨_,hc,Z⟩ O;exact⟨⟨_,SqL.of Z,by simp⟩,hQ ys H hc O⟩
section
variable {X:Cx}{K:o0}{o e:Expr}{es:oj Expr}{to:TE}{t:TA}{name:Str}{apos cpos:Pos}{T id:String}{r:V->oj V->Hp->VK->Prop}
theorem pe_bmK (hK:X.K=K)(pa:HM T)(slot:Slot T name id)(ac:typeOf (.builtin id)=pure (.type "method_descriptor"))(hm:MtR X id r)(ho:PE X o to)(ha:PA X (e::es) t)
  (U:Gf o name X.env (eval o X.env)=eval o X.env)
  (aa:((V8 cpos (U_ (e::es) X.env)).all (λx=> !x.1)&&(G9 cpos (gZ [] X.env)).all (λx=>x.1.isSome)
   &&decide ((e::es).length+([]:oj Gh).length+(if([]:oj Gh).isEmpty then 0 else 1)<30))=v_)
  (Z:(apos.endLine==cpos.line)=v_) (hs:U_ (e::es) X.env=(UV,eval e X.env)::U_ es X.env) (O:(V8 cpos (U_ es X.env)).any (·.1)=UV):
  PE X (.Call (.Attribute o name apos) (e::es) [] cpos) (tBM K T r to t):=by
 subst hK;exact YR pa slot ac hm ho ha U aa Z hs O
end
theorem paired_at {α β:Type}{F:α->β->Prop}:∀{l₁:oj α}{l₂:oj β},Paired F l₁ l₂->∀{j:Nat}{a:α}{b:β},l₁[j]? =u_ a->l₂[j]? =u_ b->F a b
 |_,_,.nil,j,a,b,h,_=>by simp at h
 |_,_,.cons f r,0,a,b,h1,h2=>by
  cases h1;cases h2;exact f
 |_,_,.cons f r,j+1,a,b,h1,h2=>paired_at r (j:=j) (by simpa using h1) (by simpa using h2)
noncomputable def okHd:D->Bool
 | .non=>v_
 |d=>trD d
section
variable {X:Cx}
inductive rEqM (x:V) (y:V) (H:Hp) (Q:VK):Prop
 |mk (d:D) (z:Str) (_:Is H d x) (_:y= .str z) (_:z.length<=1000) (_:okHd d=v_) (_:dp d<=60) (_:Q (.bl (eqD d (.str z))) H)
theorem op_eqM (hu:X.A.units+64<V5):OpR X (V6 .Eq) rEqM:=by
 intro oq s σ H x y v u Q I O U h;erw[h,d,z,hd,rfl,hz,Z,hp,q];cases d with
 |non=>
  cases(show x= .non from hd)
  exact QD oq s σ H .non (.str z) v u Q I O U ⟨1,by simpa [eqD] using q⟩
 |str a=>exact op_eqD hu oq s σ H x _ v u Q I O U ⟨_,.str z,hd,⟨1,by rw [uA];omega⟩,Z,1,hp,q⟩
 |tup a=>exact op_eqD hu oq s σ H x _ v u Q I O U ⟨_,.str z,hd,⟨1,by rw [uA];omega⟩,Z,1,hp,q⟩
 |_=>simp [okHd,trD] at Z
inductive rInM (K:PySem.W.Frag) (x:V) (y:V) (H:Hp) (Q:VK):Prop
 |mk (d:D) (p:Addr) (ls:List Str) (_:Is H d x) (_:y= .ref p) (_:(SqL K H p (ls.map V.str)∨SqT K H p (ls.map V.str))) (_:(∀z∈ls,z.length<=1000)) (_:okHd d=v_) (_:dp d<=60) (_:Q (.bl (ls.any λz=>eqD d (.str z))) H)
theorem flat_ss (us:oj Str):(us.map V.str).all Zi=true:=by
 rw [U2,U5];exact λ_ _=>rfl
theorem op_inM (hu:X.A.units+64<V5):OpR X (V6 .In) (rInM X.K):=by
 intro oq s σ H x y v u Q I rx ry h;erw[h,d,p,ls,hd,rfl,O,ac,hk,hp,q];cases d with
 |non=>
  cases(show x= .non from hd)
  refine QA oq s σ H .non _ v u Q I rx ry ⟨p,0,O,1,flat_ss _,?_⟩;have e:inV .non (ls.map V.str)=ls.any λz=>eqD .non (.str z):=by
   unfold inV;rw [tm]
   rfl
  rwa [A2 u9,e]
 |str a=>
  erw[hd,rfl,_];refine QA oq s σ H _ _ v u Q I rx ry ⟨p,0,O,1,flat_ss _,?_⟩;have e:inV (.str a) (ls.map V.str)=ls.any λz=>eqD (.str a) (.str z):=by
   unfold inV;rw [tm];refine congrArg (λf=>ls.any f) (funext λz=> ?_);show(z==a)=(a==z);rw [vF,beq_iff_eq,beq_iff_eq];exact eq_comm
  rwa [A2 u9,e]
 |tup xs=>
  have e:(ls.any λz=>eqD (.tup xs) (.str z))=false:=by
   rw [T4];intro z _;simp [eqD]
  rw [e] at q;erw[hd,pa,vs,rfl,ha,hl];cases rx;cases ry;erw[I.tuple (.inl (.of ha)),ad,ae,af,_];have ag:X.A.units<cLine:=by omega
  have U:∀{its:oj o6},Vals (ls.map V.str) its->∀w∈its,∀A:oh,A.units+1<V5->Vb A s w (.ref pa) false:=by
   intro its r w Z A hA;erw[List.mem_iff_getElem?.mp Z,j,hj];have aa:j<ls.length:=by
    have:=(Aa.mp hj).1;have:=r.length;rw [ua] at this;omega
   obtain⟨u',e1,e2⟩:=r.get (i:=j) (x:=V.str ls[j]) (by rw [uF,ug aa];rfl)
   rw [hj] at e1;cases e1;have:=eqAt_D I 1 (.str ls[j]) (.tup xs) (.str ls[j]) (.ref pa) _ (.ref pa) A (by simp [dp]) rfl (by simpa [okHd,trD,puD] using hk) ⟨1,by have:=ac _ (uQ aa);rw [uA];omega⟩ ⟨pa,vs,1,ha,hl⟩ e2 rfl ()
   simpa [eqD] using this
  rcases O with O|O
  ·erw[I.list O,its,r,pl,hz];refine FC (λ_=>UV) pl.isList (λw Z=>U r w (by simpa using Z) _ ?_) ⟨.bl _,H,I,1,?_⟩
   ·first|omega|(rw [uR];omega)|(rw [uR,uR];omega)|(rw [uR,uR,uR];omega)
   ·rw [show its.toArray.any (λ_=>UV)=UV by rw [T7];exact List.any_eq_false.mpr λ_ _=>u9]
    exact q
  ·erw[I.tuple O,its,r,pl,hz];refine rS (λ_=>UV) pl (λw Z=>U r w (by simpa using Z) _ ?_) ⟨.bl _,H,I,1,?_⟩
   ·first|omega|(rw [uR];omega)|(rw [uR,uR];omega)|(rw [uR,uR,uR];omega)
   ·rw [show its.toArray.any (λ_=>UV)=UV by rw [T7];exact List.any_eq_false.mpr λ_ _=>u9]
    exact q
 |_=>simp [okHd,trD] at hk
end
end L2
namespace L2
open PySem PySem.Spec PyProof.Rows Builtin Builtin.Str
noncomputable def tCallX (P:o9)(w:og)(K:o0)(mg:Str->om o6)(base:o8)(k:Nat)(tf:TE)(t:TA):TE:=λσ H Q=>tf σ H λv H1=>∃(f:o3) (fd:UX) (ps:oj Str) (sp:Sp),v= .ref f/\
 FnOk P w K mg base CX0 k f fd ps sp/\zo K fd ps []/\PySem.W.keepIn K (.ref f)=v_/\t σ H1 λvs H2=>sp vs H2 Q E0
theorem pe_callX {X:Cx}{o i e:Expr}{es:oj Expr}{O pos:Pos}{Z:TE}{t:TA}{k:Nat}{P:o9}{w:og}{K:o0}{mg:Str->om o6}{base:o8}(e1:X.prog=P/\X.w=w/\X.K=K/\X.mg=mg/\X.base=base)(hf:PE X (.Subscript o i O) Z)(hr:Room k X.A)(ha:PA X (e::es) t)
  (he:U_ (e::es) X.env=(UV,eval e X.env)::U_ es X.env) (U:(V8 pos (U_ es X.env)).any (·.1)=UV):
  PE X (.Call (.Subscript o i O) (e::es) [] pos) (tCallX P w K mg base k Z t):=by
 erw[e1,rfl,rfl,rfl,rfl,rfl];intro oq s σ H Q I h;show UW _ _ (do HF pos (<-eval (.Subscript o i O) X.env) [] (V8 pos (U_ (e::es) X.env)) (G9 pos (gZ [] X.env))) _ _ s
 refine A4 (thn (hf oq s σ H _ I h) λu s1 zq=> ?_);erw[zq,v,H1,I1,rv,f,fd,ps,sp,ev,F,hb,hk,q];subst ev;obtain rfl:u=V1 f:=rv;refine Uz (h₀:=X.base) I1.ok.mod.kin hk (thn (ha pos oq s1 σ H1 _ I1 q) λus s2 ⟨vs,H2,I2,r,q2⟩=>[I2.kIn:?_]) he U;exact run_fn (ds:= []) (dvs:= []) F hr hb .nil qB I2 r (by rw [v6];exact q2)
theorem kI (z y:Str)(hi O:Nat):∀(l:oj Nat) (st:Array Nat×Nat),(VD l st (VU z y hi O)).run.fst.size<=st.fst.size+l.length
 | [],st=>uh _
 |a::l,st=>by
  rw [Ui];unfold VU;split
  ·refine uO (kI z y hi O l _) ?_;simp only [Fj,ui];omega
  ·refine uO (kI z y hi O l _) ?_;simp only [ui];omega
theorem occ_len (z y:Str)(n:Nat):(occurrences z y 0 z.length n).length<=z.length+1:=by
 rw [FQ];have:=kI z y z.length n (gT 0 (z.length+1-0)) (#[],0);rw [vb];refine uO this ?_;simp
noncomputable def spG (z y:Str):oj Str:=if(decide (z.length<y.length)||decide (Vg z<Vg y))=v_ then [z] else if(occurrences z y 0 z.length (z.length+1)).isEmpty=v_ then [z] else partsBetween z (occurrences z y 0 z.length (z.length+1)) y.length
theorem spG_len (z y:Str):(spG z y).length<=z.length+2:=by
 unfold spG;have h:=occ_len z y (z.length+1);split
 ·simp
 ·split
  ·simp
  ·simp only [partsBetween,ua,List.length_zip,ui,uu,h_];omega
variable {z:Str}
theorem spG_mem {y p:Str}(h:p∈spG z y):p.length<=z.length:=by
 unfold spG at h;split at h
 ·rw [vT] at h;subst h;exact uh _
 ·split at h
  ·rw [vT] at h;subst h;exact uh _
  ·simp only [partsBetween,A8] at h;erw[h,q,_,e];rw [<-e];exact strSub_length_le _ _ _
section
variable {X:Cx}
inductive rSplitG (x:V) (vs:List V) (H:Hp) (Q:VK):Prop
 |mk (z:_) (y:_) (_:x= .str z) (_:vs= [.str y]) (_:0<y.length) (_:z.length<=1000) (_:∀p,H p=UU->Q (.ref p) (upd H p (.lst ((spG z y).map V.str))))
theorem mt_splitG:MtM X "str.split" rSplitG:=by
 intro oq s σ H x vs v us Q I rx rv h;erw[h,z,y,rfl,rfl,hy,hz,q];erw[rx,t,rfl];erw[rv.one,u,rfl,t',rfl];have Z:z.length<=sizeLine:=by rw [uA];omega
 have O:(y.length==0)=false:=by simp;omega
 have one:spG z y= [z]->∀(T:Nat),0<T->EP X oq σ Q (.ref s.heap.objs.size) {s with heap:=s.heap.push {cls:= .type "list",data:= .seq [Vh z t].toArray},toks:=T}:=λe T hT=>by
  rw [e] at q;exact JS (ys:= [V.str z]) I (.cons (show RelV (V.str z) _ from[t:1]) .nil) (by show 1<=UY;decide) q
 cases h1:(decide (z.length<y.length)||decide (Vg z<Vg y)) with
 |true=>
  refine vx vA (vI _ _ _) vt (vS _ _) (rC z y t t' h1) ?_;exact one (by unfold spG;rw [A3 h1]) s.toks I.tk
 |false=>
  cases U:(occurrences z y 0 z.length (z.length+1)).isEmpty with
  |true=>
   refine vx vA (vI _ _ _) vt (vS _ _) (FT z y t t' h1 O U) ?_;exact one (by unfold spG;rw [A2 (by rw [h1];decide),A3 U]) s.toks I.tk
  |false=>
   have hl:=spG_len z y;have e:spG z y=partsBetween z (occurrences z y 0 z.length (z.length+1)) y.length:=by unfold spG;rw [A2 (by rw [h1];decide),A2 (by rw [U];decide)]
   rw [e] at q hl;refine vx vA (vI _ _ _) vt (vS _ _) (Fq z y t t' h1 O U Z (by rw [uA];omega)) ?_
   exact JS I (Xd _ _) (by rw [ua,uA];omega) q
inductive rJoinT (K:PySem.W.Frag) (x:V) (vs:List V) (H:Hp) (Q:VK):Prop
 |mk (sep:Str) (p:Addr) (l:List Str) (_:x= .str sep) (_:vs= [.ref p]) (_:SqT K H p (l.map V.str)) (_:(l.map (·.length)).sum+l.length*sep.length<=1000000) (_:Q (.str (V2 sep l)) H)
theorem mt_joinT:MtM X "str.join" (rJoinT X.K):=by
 intro oq s σ H x vs v us Q I rx rv h;erw[h,sep,p,l,rfl,rfl,hp,hz,q];erw[rx,t,rfl];erw[rv.one,u,rfl,ru];cases ru;erw[I.tuple hp,its,r,pl,hl];erw[XG r,ps,rfl,Z];have U:tooLong ((ps.map (·.1)).toArray.foldl (·+ ·.length+sep.length) 0)=false:=by
  rw [Z];have:=Fu sep l;rw [this];unfold tooLong;refine ud ?_;rw [uA];omega
 refine vx F.slot_str_join (vI _ _ _) F.entry_str_join (F.args_str_join_2 _ _) (meets_str_join_tuple sep t p ps U) ⟨(let⟨o,h1,h2,n,h3⟩:=pl;⟨o,n,h1,h2,h3⟩),?_⟩;have O:(glued sep (ps.map (·.1))).length<=sizeLine:=Fp U
 match ps,Z,O with
 | [],Z,O=>
  subst Z;exact⟨O,.str _,H,I.tok _,⟨0⟩,q⟩
 | [a],Z,_=>
  subst Z;exact⟨.str _,H,I,[a.2:1],q⟩
 |a::b::r,Z,O=>
  subst Z;exists O,.str _,H,I.tok _,⟨0⟩;rw [To];exact q
theorem sl_any:SlR X (λx lo hi H Q=>rSlS x lo hi H Q∨rSlG X.K x lo hi H Q):=sl_str.or sl_tupG
end
end L2
namespace L2
open PySem PySem.Spec PyProof.Rows
open Builtin.Int (intBits)
section
variable {X:Cx}
inductive rInK (K:PySem.W.Frag) (w:World) (x:V) (y:V) (H:Hp) (Q:VK):Prop
 |mk (z:_) (a:_) (r:_) (_:x= .str z) (_:y= .ref a) (_:KDict K w a) (_:PySem.W.nsIn K a z=u_ r) (_:Q (.bl r.isSome) H)
theorem op_inK:OpR X (V6 .In) (rInK X.K X.w):=by
 intro oq s σ H x y v u Q I U Z h;erw[h,z,a,r,rfl,rfl,[hs,es,n,O,hk],hn,q];erw[U,t,rfl];cases Z;have hm:=PySem.W.mapOf_K (prog:=X.prog) (w:=X.w) I.kIn O hk;refine rT (tK X.prog X.w z t) hs hm ⟨.bl r.isSome,H,I.tok _,?_,q⟩;rw [PySem.W.find_K O hn]
 rfl
end
end L2
namespace L2
open PySem PySem.Spec PyProof.Rows
mutual
noncomputable def nD:D->Bool
 | .non=>v_
 | .str _=>v_
 | .int _=>v_
 | .tup xs=>nL xs
 |_=>UV
noncomputable def nL:oj D->Bool
 | []=>v_
 |x::r=>nD x&&nL r
end
theorem nL_get:∀{xs:oj D}{j:Nat}{x:D},nL xs=v_->xs[j]? =u_ x->nD x=v_
 | [],_,_,_,e=>by simp at e
 |y::r,0,x,h,e=>by
  have h':nD y=v_/\nL r=true:=by simpa [nL] using h
  have:y=x:=by simpa using e
  exact this▸h'.1
 |y::r,j+1,x,h,e=>by
  have h':nD y=v_/\nL r=true:=by simpa [nL] using h
  exact nL_get h'.2 (by simpa using e)
mutual
noncomputable def eqN:D->D->Bool
 | .non,.non=>v_
 | .str a,.str b=>a==b
 | .int a,.int b=>a==b
 | .tup xs,.tup ys=>eqNL xs ys
 |_,_=>UV
noncomputable def eqNL:oj D->oj D->Bool
 | [],[]=>v_
 |x::r,y::q=>eqN x y&&eqNL r q
 |_,_=>UV
end
mutual
theorem k8:∀{d e:D},nD d=v_->(eqN d e=v_↔d=e)
 | .non,e,_=>by cases e<;>simp [eqN]
 | .str a,e,_=>by cases e<;>simp [eqN]
 | .int a,e,_=>by cases e<;>simp [eqN]
 | .tup xs,.tup ys,h=>by
  have:=eqNL_iff (xs:=xs) (ys:=ys) (by simpa [nD] using h)
  simp only [eqN,this,D.tup.injEq]
 | .tup xs,.non,_=>by simp [eqN]
 | .tup xs,.bl _,_=>by simp [eqN]
 | .tup xs,.int _,_=>by simp [eqN]
 | .tup xs,.str _,_=>by simp [eqN]
 | .tup xs,.lst,_=>by simp [eqN]
 | .tup xs,.dct,_=>by simp [eqN]
 | .bl _,_,h=>by simp [nD] at h
 | .lst,_,h=>by simp [nD] at h
 | .dct,_,h=>by simp [nD] at h
theorem eqNL_iff:∀{xs ys:oj D},nL xs=v_->(eqNL xs ys=v_↔xs=ys)
 | [],[],_=>by simp [eqNL]
 | [],_::_,_=>by simp [eqNL]
 |_::_,[],_=>by simp [eqNL]
 |x::r,y::q,h=>by
  have h':nD x=v_/\nL r=true:=by simpa [nL] using h
  simp only [eqNL,uw,k8 h'.1,eqNL_iff h'.2,UE]
end
mutual
theorem Is.detN {H:Hp}:∀{d e:D}{v:V},nD d=v_->nD e=v_->Is H d v->Is H e v->d=e
 | .non,e,v,_,he,h1,h2=>by
  cases(show v= .non from h1)
  cases e with
  |non=>rfl
  |str b=>obtain⟨q,_⟩:=(show V.non=V.str b/\_ from h2);cases q
  |int b=>cases(show V.non=V.int b from h2)
  |tup ys=>obtain⟨p,us,q,_⟩:=(show∃p us,V.non=V.ref p/\_ from h2);cases q
  |_=>simp [nD] at he
 | .str a,e,v,_,he,h1,h2=>by
  obtain⟨rfl,_⟩:=(show v= .str a/\_ from h1)
  cases e with
  |non=>cases(show V.str a=V.non from h2)
  |str b=>obtain⟨q,_⟩:=(show V.str a=V.str b/\_ from h2);cases q;rfl
  |int b=>cases(show V.str a=V.int b from h2)
  |tup ys=>obtain⟨p,us,q,_⟩:=(show∃p us,V.str a=V.ref p/\_ from h2);cases q
  |_=>simp [nD] at he
 | .int a,e,v,_,he,h1,h2=>by
  cases(show v= .int a from h1)
  cases e with
  |non=>cases(show V.int a=V.non from h2)
  |str b=>obtain⟨q,_⟩:=(show V.int a=V.str b/\_ from h2);cases q
  |int b=>cases(show V.int a=V.int b from h2);rfl
  |tup ys=>obtain⟨p,us,q,_⟩:=(show∃p us,V.int a=V.ref p/\_ from h2);cases q
  |_=>simp [nD] at he
 | .tup xs,e,v,hd,he,h1,h2=>by
  obtain⟨p,vs,rfl,Z,hl⟩:=(show∃p vs,v=V.ref p/\H p=u_ (.tup vs)/\IsL H xs vs from h1)
  cases e with
  |non=>cases(show V.ref p=V.non from h2)
  |str b=>obtain⟨q,_⟩:=(show V.ref p=V.str b/\_ from h2);cases q
  |int b=>cases(show V.ref p=V.int b from h2)
  |tup ys=>
   obtain⟨p',us,q,O,U⟩:=(show∃p' us,V.ref p=V.ref p'/\H p'=u_ (.tup us)/\IsL H ys us from h2)
   cases q;rw [Z] at O;cases O;rw [IsL.detN (by simpa [nD] using hd) (by simpa [nD] using he) hl U]
  |_=>simp [nD] at he
 | .bl _,_,_,hd,_,_,_=>by simp [nD] at hd
 | .lst,_,_,hd,_,_,_=>by simp [nD] at hd
 | .dct,_,_,hd,_,_,_=>by simp [nD] at hd
theorem IsL.detN {H:Hp}:∀{xs ys:oj D}{vs:oj V},nL xs=v_->nL ys=v_->IsL H xs vs->IsL H ys vs->xs=ys
 | [],[],_,_,_,_,_=>rfl
 | [],_::_,_,_,_,h1,h2=>by
  cases(show _= [] from h1)
  obtain⟨v,r,q,_⟩:=(show∃v r,[]=v::r/\_ from h2)
  cases q
 |_::_,[],_,_,_,h1,h2=>by
  cases(show _= [] from h2)
  obtain⟨v,r,q,_⟩:=(show∃v r,[]=v::r/\_ from h1)
  cases q
 |x::xs,y::ys,_,hd,he,h1,h2=>by
  erw[h1,v,r,rfl,Z,a2];erw[h2,v',r',q,b1,b2];cases q;have O:nD x=v_/\nL xs=true:=by simpa [nL] using hd
  have U:nD y=v_/\nL ys=true:=by simpa [nL] using he
  rw [Is.detN O.1 U.1 Z b1,IsL.detN O.2 U.2 a2 b2]
end
theorem Kt:∀(xs ys:oj D),eqNL xs ys=((V4 (min xs.length ys.length)).all (λj=>eqN (xs.getD j .non) (ys.getD j .non))&&xs.length==ys.length)
 | [],[]=>by simp [eqNL]
 | [],_::_=>by simp [eqNL]
 |_::_,[]=>by simp [eqNL]
 |x::r,y::q=>by
  have O:=Kt r q;rw [ui,ui,show min (r.length+1) (q.length+1)=min r.length q.length+1 by omega,tD,vn,U2]
  have e:(V4 (min r.length q.length)).all ((λj=>eqN ((x::r).getD j .non) ((y::q).getD j .non))∘tG)=(V4 (min r.length q.length)).all λj=>eqN (r.getD j .non) (q.getD j .non):=by congr 1
  rw [e];have U:(r.length+1==q.length+1)=(r.length==q.length):=by rw [vF];simp
  rw [U,Tp,<-O]
  rfl
section
variable {X:Cx}{oq:oj (o3×Obj)}{σ:St}{H:Hp}{s:o7}
variable {e:D}{A:oh}
theorem eqAt_nonN (I:Inv X oq σ H s){u:V}{b:o6}(U:nD e=v_)(h2:Is H e u)(O:RelV u b)(Z:A.units<V5):Vb A s .none b (eqN .non e):=by
 cases e with
 |non=>
  cases(show u= .non from h2)
  cases O;exact GZ _
 |str y=>
  obtain⟨rfl,_⟩:=(show u= .str y/\_ from h2)
  erw[O,t2,rfl];exact rZ _ _
 |int y=>
  cases(show u= .int y from h2)
  erw[O,t2,rfl];exact rR _ _
 |tup ys=>
  obtain⟨p,us,rfl,hp,hl⟩:=(show∃p us,u=V.ref p/\H p=u_ (.tup us)/\IsL H ys us from h2)
  cases O;erw[I.tuple (.inl (.of hp)),its,_,q,_];exact Rq q Z
 |_=>simp [nD] at U
variable {z:Str}
theorem eqAt_strN (I:Inv X oq σ H s){t:Tok}{u:V}{b:o6}(U:nD e=v_)(h2:Is H e u)(O:RelV u b)(Z:A.units<V5):Vb A s (.str z t) b (eqN (.str z) e):=by
 cases e with
 |non=>
  cases(show u= .non from h2)
  cases O;exact Tj _ _
 |str y=>
  obtain⟨rfl,_⟩:=(show u= .str y/\_ from h2)
  erw[O,t2,rfl];exact UC _ _ _ _
 |int y=>
  cases(show u= .int y from h2)
  erw[O,t2,rfl];exact Ux _ _ _ _
 |tup ys=>
  obtain⟨p,us,rfl,hp,hl⟩:=(show∃p us,u=V.ref p/\H p=u_ (.tup us)/\IsL H ys us from h2)
  cases O;erw[I.tuple (.inl (.of hp)),its,_,q,_];exact Te _ _ q Z
 |_=>simp [nD] at U
theorem eqAt_intN (I:Inv X oq σ H s){z:Int}{t:Tok}{u:V}{b:o6}(U:nD e=v_)(h2:Is H e u)(O:RelV u b)(Z:A.units<V5):Vb A s (.int z t) b (eqN (.int z) e):=by
 cases e with
 |non=>
  cases(show u= .non from h2)
  cases O;exact TR _ _
 |str y=>
  obtain⟨rfl,_⟩:=(show u= .str y/\_ from h2)
  erw[O,t2,rfl];exact Uw _ _ _ _
 |int y=>
  cases(show u= .int y from h2)
  erw[O,t2,rfl];exact tL _ _ _ _
 |tup ys=>
  obtain⟨p,us,rfl,hp,hl⟩:=(show∃p us,u=V.ref p/\H p=u_ (.tup us)/\IsL H ys us from h2)
  cases O;erw[I.tuple (.inl (.of hp)),its,_,q,_];exact TC _ _ q Z
 |_=>simp [nD] at U
theorem parts_N {xs ys:oj D}{vs us:oj V}{its its':oj o6}{A:oh}(hd:nL xs=v_)(he:nL ys=v_)(hl:IsL H xs vs)(O:IsL H ys us)(rv:Vals vs its)(U:Vals us its')
  (ih:∀x∈xs,∀(e:D) (v u:V) (a b:o6),nD x=v_->nD e=v_->Is H x v->Is H e u->RelV v a->RelV u b->Vb A s a b (eqN x e)):
  ∀j (a1:j<its.toArray.size) (a2:j<its'.toArray.size),Vb A s its.toArray[j] its'.toArray[j] (eqN (xs.getD j .non) (ys.getD j .non)):=λj a1 a2=>by
 have l1:its.length=xs.length:=by rw [<-rv.length,hl.length]
 have l2:its'.length=ys.length:=by rw [<-U.length,O.length]
 have Z:j<xs.length:=by rw [<-l1];simpa using a1
 have j2:j<ys.length:=by rw [<-l2];simpa using a2
 obtain⟨v1,e1,i1⟩:=hl.get (i:=j) (d:=xs[j]) (by simp [Z])
 obtain⟨v2,e2,i2⟩:=O.get (i:=j) (d:=ys[j]) (by simp [j2])
 erw[rv.get e1,b1,f1,g1];erw[U.get e2,b2,f2,g2];have k1:its.toArray[j]=b1:=by
  have:=f1;rw [ug (by rwa [l1])] at this
  simpa using this
 have k2:its'.toArray[j]=b2:=by
  have:=f2;rw [ug (by rwa [l2])] at this
  simpa using this
 have d1:xs.getD j .non=xs[j]:=by simp [Vz,Z]
 have d2:ys.getD j .non=ys[j]:=by simp [Vz,j2]
 rw [k1,k2,d1,d2];exact ih _ (uQ Z) _ _ _ _ _ (nL_get (j:=j) hd (by simp [Z])) (nL_get (j:=j) he (by simp [j2])) i1 i2 g1 g2
theorem eqAt_tupN (I:Inv X oq σ H s){xs:oj D}{e:D}{v u:V}{a b:o6}{A:oh}(hd:nD (.tup xs)=v_)(he:nD e=v_)(h1:Is H (.tup xs) v)(h2:Is H e u)(r1:RelV v a)(O:RelV u b)(hu:A.units<V5)
  (ih:∀x∈xs,∀(e:D) (v u:V) (a b:o6),nD x=v_->nD e=v_->Is H x v->Is H e u->RelV v a->RelV u b->Vb A.in1 s a b (eqN x e)):Vb A s a b (eqN (.tup xs) e):=by
 obtain⟨p,vs,rfl,hp,hl⟩:=(show∃p vs,v=V.ref p/\H p=u_ (.tup vs)/\IsL H xs vs from h1)
 cases r1;erw[I.tuple (.inl (.of hp)),its,rv,q,_];cases e with
 |non=>
  cases(show u= .non from h2)
  cases O;exact RF q hu
 |str y=>
  obtain⟨rfl,_⟩:=(show u= .str y/\_ from h2)
  erw[O,t2,rfl];exact TL _ _ q hu
 |int y=>
  cases(show u= .int y from h2)
  erw[O,t2,rfl];exact rp _ _ q hu
 |tup ys=>
  by_cases hv:V.ref p=u
  ·have:=Is.detN (e:= .tup ys) hd he h1 (hv▸h2);subst hv;cases O;rw [<-this,(k8 hd).mpr rfl];exact GZ _
  ·obtain⟨p',us,rfl,aa,U⟩:=(show∃p' us,u=V.ref p'/\H p'=u_ (.tup us)/\IsL H ys us from h2)
   cases O;erw[I.tuple (.inl (.of aa)),its',Z,q',_];have l1:its.length=xs.length:=by rw [<-rv.length,hl.length]
   have l2:its'.length=ys.length:=by rw [<-Z.length,U.length]
   have ac:=UL (e:=λj=>eqN (xs.getD j .non) (ys.getD j .non)) q q' hu (parts_N (by simpa [nD] using hd) (by simpa [nD] using he) hl U rv Z ih)
   have e1:eqN (.tup xs) (.tup ys)=((V4 (min its.toArray.size its'.toArray.size)).all (λj=>eqN (xs.getD j .non) (ys.getD j .non))&&its.toArray.size==its'.toArray.size):=by
    rw [um,um,l1,l2,<-Kt];simp only [eqN]
   rw [e1];exact rn (λz=>hv (by rw [z])) ac
 |_=>simp [nD] at he
theorem eqAt_N (I:Inv X oq σ H s):∀(n:Nat) (d e:D) (v u:V) (a b:o6) (A:oh),dp d<=n->nD d=v_->nD e=v_->Is H d v->Is H e u->RelV v a->RelV u b->A.units+n<V5->Vb A s a b (eqN d e):=by
 intro n
 induction n with
 |zero=>
  intro d e v u a b A hn hd U h1 h2 Z r2 hu;cases d with
  |non=>
   cases(show v= .non from h1)
   cases Z;exact eqAt_nonN I U h2 r2 hu
  |int z=>
   cases(show v= .int z from h1)
   erw[Z,t,rfl];exact eqAt_intN I U h2 r2 hu
  |str z=>simp [dp] at hn
  |tup xs=>simp [dp] at hn
  |_=>simp [nD] at hd
 |succ n ih=>
  intro d e v u a b A hn hd U h1 h2 Z r2 hu;have O:A.units<cLine:=Ud (UQ _ _) hu;cases d with
  |non=>
   cases(show v= .non from h1)
   cases Z;exact eqAt_nonN I U h2 r2 O
  |int z=>
   cases(show v= .int z from h1)
   erw[Z,t,rfl];exact eqAt_intN I U h2 r2 O
  |str z=>
   obtain⟨rfl,_⟩:=(show v= .str z/\_ from h1)
   erw[Z,t,rfl];exact eqAt_strN I U h2 r2 O
  |tup xs=>
   have hm:dpL xs<=n:=by
    have:dp (.tup xs)=1+dpL xs:=by simp only [dp]
    omega
   exact eqAt_tupN I hd U h1 h2 Z r2 O λx hx e v u a b k1 k2 k3 k4 k5 k6=>ih x e v u a b A.in1 ((wt xs).mp hm x hx) k1 k2 k3 k4 k5 k6 (by rw [uR];omega)
  |_=>simp [nD] at hd
inductive rCmpN (g:Bool->Bool) (x:V) (y:V) (H:Hp) (Q:VK):Prop
 |mk (ds es:List D) (_:Is H (.tup ds) x) (_:Is H (.tup es) y) (_:nL ds=v_) (_:nL es=v_) (_:dpL ds<=60) (_:Q (.bl (g (eqNL ds es))) H)
variable {ds:oj D}{y:V}{u:o6}
theorem rc_N (I:Inv X oq σ H s){es:oj D}{x:V}{v:o6}(h1:Is H (.tup ds) x)(h2:Is H (.tup es) y)(hn:nL ds=v_)(Z:nL es=v_)(hd:dpL ds<=60)(rx:RelV x v)(ry:RelV y u)(hu:X.A.units+64<V5):
  Tg X.A s v u (eqNL ds es)/\rV X.A s v u (!eqNL ds es):=by
 obtain⟨p,vs,rfl,hp,hl⟩:=(show∃p vs,x=V.ref p/\H p=u_ (.tup vs)/\IsL H ds vs from h1)
 obtain⟨p',us,rfl,aa,O⟩:=(show∃p vs,y=V.ref p/\H p=u_ (.tup vs)/\IsL H es vs from h2)
 cases rx;cases ry;erw[I.tuple (.inl (.of hp)),its,rv,q,_];erw[I.tuple (.inl (.of aa)),its',U,q',_];have l1:its.length=ds.length:=by rw [<-rv.length,hl.length]
 have l2:its'.length=es.length:=by rw [<-U.length,O.length]
 have pe:=parts_N (A:=X.A.in1) hn Z hl O rv U λx hx e v u a b k1 k2 k3 k4 k5 k6=>eqAt_N I 60 x e v u a b X.A.in1 ((wt ds).mp hd x hx) k1 k2 k3 k4 k5 k6 (by rw [uR];omega)
 have e1:=UL (e:=λj=>eqN (ds.getD j .non) (es.getD j .non)) q q' () pe
 have e2:=Tn (e:=λj=>eqN (ds.getD j .non) (es.getD j .non)) q q' () pe
 rw [um,um,l1,l2,<-Kt] at e1 e2;exact[e1:e2]
theorem op_eqN (U:X.A.units+64<V5):OpR X (V6 .Eq) (rCmpN id):=by
 intro oq s σ H x y v u Q I Z ry h;erw[h,ds,es,h1,h2,hn,O,hd,q];exact(rc_N I h1 h2 hn O hd Z ry U).1 X.prog X.w X.xe _ ⟨.bl _,H,I,1,q⟩
theorem op_neTN (U:X.A.units+64<V5):OpR X (V6 .NotEq) (rCmpN not):=by
 intro oq s σ H x y v u Q I Z ry h;erw[h,ds,es,h1,h2,hn,O,hd,q];exact(rc_N I h1 h2 hn O hd Z ry U).2 X.prog X.w X.xe _ ⟨.bl _,H,I,1,q⟩
end
structure FF (K:o0)(mg:Str->om o6)(x:Str)(st:Stmt)(ps:oj Str)(f:o3)(fd:UX):Prop where
 F:Fun K x x st f fd
 b:zo K fd ps []
 m:mg x=u_ (.ref f)
structure FM (K:o0)(C:o3)(x q:Str)(st:Stmt)(ps:oj Str)(f:o3)(fd:UX):Prop where
 F:Fun K x q st f fd
 b:zo K fd ps []
 h:Meth K C x f
noncomputable def FZ (K:o0)(x q:Str)(st:Stmt)(f:o3):Prop:=∃(oc kV dc pm cd ct:o6) (od an:om o3) (sl:Array (om o6)),K.lookup f=u_ ⟨oc,od,.func (PySem.W.fnOf x q (YD st) (yU st) (qj st) .none kV dc pm an cd ct),sl⟩/\PySem.W.codeIn K cd q=v_/\PySem.W.keepIn K (.ref f)=v_
noncomputable def FZg (K:o0)(x:Str)(st:Stmt)(f:o3):Prop:=PySem.W.nsIn K Ve x=u_ (u_ (.ref f))/\FZ K x x st f
noncomputable def FZm (K:o0)(C:o3)(x q:Str)(st:Stmt)(f:o3):Prop:=PySem.W.findIn K (.ref C) x=u_ (u_ (.ref f))/\PySem.W.isFn K (.ref f)=v_/\FZ K x q st f
noncomputable def BOk (x q:Str)(st:Stmt)(ps:oj Str):Prop:=∀(kV doc pm:o6) (an:om o3) (cdv ct:o6) (us:oj o6),us.length=ps.length->VS (PySem.W.fnOf x q (YD st) (yU st) (qj st) .none kV doc pm an cdv ct) [us:[]]=pure (ps.zip us)
variable {K:o0}{h:o8}{mg:Str->om o6}{x:Str}{st:Stmt}{f:o3}
theorem Qf (X:K.In h)(G:h.Ns Ve mg)(z:FZg K x st f)(ps:oj Str)(O:BOk x x st ps):∃fd,FF K mg x st ps f fd:=by
 erw[z,a,oc,kV,dc,pm,U,ct,od,an,sl,l,c,k];have F:=fun_mk (st:=st) l c k;exact⟨_,F,F.binds O,uM X G a⟩
variable {C:o3}
theorem yS {q:Str}(z:FZm K C x q st f)(ps:oj Str)(O:BOk x q st ps):∃fd,FM K C x q st ps f fd:=by
 erw[z,a,i,oc,kV,dc,pm,U,ct,od,an,sl,l,c,k];have F:=fun_mk (st:=st) l c k;exact⟨_,F,F.binds O,[a:i:k]⟩
theorem FF.law {ps:oj Str}{fd:UX}(T:FF K mg x st ps f fd){y:Str}(h:∀(kV doc pm:o6) (an:om o3) (cdv ct u:o6),VS (PySem.W.fnOf x x (YD st) (yU st) (qj st) .none kV doc pm an cdv ct) [[u]:[]]=pure [(y,u)])(s:o7)(u:o6):gS s fd [[u]:[]] [(y,u)]:=by
 erw[T.F.ex,oc,od,kV,doc,pm,an,cdv,ct,osl,rfl,lk,O];exact .of_eq (h kV doc pm an cdv ct u)
noncomputable def txt? (u:o6):om Str:=match u with
 | .str z _=>u_ z
 |_=>UU
noncomputable def TZ (K:o0)(q:o3)(l:oj Str):Prop:=∃(d:om o3) (i:Array o6) (n:Nat) (sl:Array (om o6)),K.lookup q=u_ ⟨.type "tuple",d,.seq i n,sl⟩/\i.toList.map txt? =l.map u_
theorem strs_of:∀{l:oj Str}{us:oj o6},us.map txt? =l.map u_->Vals (l.map V.str) us
 | [],[],_=> .nil
 |z::l,u::us,h=>by
  rw [uq,uq] at h;injection h with h1 h2
  cases u with
  |str y t=>
   have:y=z:=uH h1;subst this;exact .cons [t:1] (strs_of h2)
  |_=>cases h1
 | [],_::_,h=>by simp at h
 |_::_,[],h=>by simp at h
variable {H:Hp}{q:o3}{l:oj Str}
theorem TZ.sq (h:TZ K q l)(Z:l.length<=100):SqT K H q (l.map V.str):=by
 erw[h,d,its,n,sl,U,e];have O:its.size=l.length:=by rw [<-vb];simpa using congrArg VP e
 exact .inr ⟨_,its,n,U,1,1,by rw [O];exact UO (XM ()),strs_of e⟩
noncomputable def TZn (K:o0)(a:o3)(x:Str)(l:oj Str):Prop:=∃q,PySem.W.nsIn K a x=u_ (u_ (.ref q))/\TZ K q l
end L2
namespace L2
open PySem PyProof.Rows
variable {σ:St}{H:Hp}
theorem qJ {t u:TS}{D:Ends}(h:∀N:St->Hp->Prop,(∀O H',u D O H'->N O H')->t {D with nx:=N} σ H):tSeq t u D σ H:=h (u D) λ_ _ h=>h
mutual
noncomputable def hvD (h:o8):D->o6->Prop
 | .non,v=>v= .none
 | .str z,v=>∃t,v= .str z t
 | .tup ds,v=>∃a o items n,v= .ref a/\h.get? a=u_ o/\o.cls= .type "tuple"/\o.data= .seq items n/\hvL h ds items.toList
 |_,_=>False
noncomputable def hvL (h:o8):oj D->oj o6->Prop
 | [],vs=>vs= []
 |d::ds,vs=>∃v r,vs=v::r/\hvD h d v/\hvL h ds r
end
mutual
noncomputable def kD:D->Bool
 | .non=>v_
 | .str _=>v_
 | .tup xs=>kL xs
 |_=>UV
noncomputable def kL:oj D->Bool
 | []=>v_
 |x::r=>kD x&&kL r
end
mutual
theorem kD_n:∀{d:D},kD d=v_->nD d=v_
 | .non,_=>by simp [nD]
 | .str _,_=>by simp [nD]
 | .tup xs,h=>by
  have:=kL_n (xs:=xs) (by simpa [kD] using h)
  simpa [nD] using this
 | .bl _,h=>by simp [kD] at h
 | .int _,h=>by simp [kD] at h
 | .lst,h=>by simp [kD] at h
 | .dct,h=>by simp [kD] at h
theorem kL_n:∀{xs:oj D},kL xs=v_->nL xs=v_
 | [],_=>by simp [nL]
 |x::r,h=>by
  have h':kD x=v_/\kL r=true:=by simpa [kL] using h
  simp [nL,kD_n h'.1,kL_n h'.2]
end
end L2
namespace L2
open PySem PySem.Spec PyProof.Rows
section
variable {X:Cx}
inductive rNeA (x:V) (y:V) (H:Hp) (Q:VK):Prop
 |mk (d e:D) (_:Is H d x) (_:Is H e y) (_:kD d=v_) (_:kD e=v_) (_:dp d<=60) (_:Q (.bl (!eqN d e)) H)
theorem op_neA (hu:X.A.units+64<V5):OpR X (V6 .NotEq) rNeA:=by
 intro oq s σ H x y v u Q I O U h;erw[h,d,e,h1,h2,k1,k2,hd,q];have Z:X.A.units<cLine:=by omega
 cases d with
 |non=>
  cases(show x= .non from h1)
  cases e with
  |non=>
   cases(show y= .non from h2)
   exact op_ne oq s σ H .non .non v u Q I O U ⟨1,by simpa [eqN] using q⟩
  |str z=>
   obtain⟨rfl,_⟩:=(show y= .str z/\_ from h2)
   exact op_ne oq s σ H .non (.str z) v u Q I O U ⟨1,by simpa [eqN] using q⟩
  |tup ys=>
   obtain⟨p,us,rfl,hp,hl⟩:=(show∃p us,y=V.ref p/\H p=u_ (.tup us)/\IsL H ys us from h2)
   cases O;cases U;erw[I.tuple (.inl (.of hp)),its,_,tq,_];exact Rv tq Z X.prog X.w X.xe _ ⟨.bl v_,H,I,1,by simpa [eqN] using q⟩
  |_=>simp [kD] at k2
 |str z=>
  obtain⟨rfl,_⟩:=(show x= .str z/\_ from h1)
  cases e with
  |non=>
   cases(show y= .non from h2)
   exact op_ne oq s σ H (.str z) .non v u Q I O U ⟨1,by simpa [eqN] using q⟩
  |str w=>
   obtain⟨rfl,_⟩:=(show y= .str w/\_ from h2)
   refine op_ne oq s σ H (.str z) (.str w) v u Q I O U [1:?_];have e1:eqN (.str z) (.str w)=decide (V.str z=V.str w):=by
    simp only [eqN];by_cases c:z=w
    ·subst c;simp
    ·simp [c]
   rwa [e1] at q
  |tup ys=>
   obtain⟨p,us,rfl,hp,hl⟩:=(show∃p us,y=V.ref p/\H p=u_ (.tup us)/\IsL H ys us from h2)
   erw[O,t,rfl];cases U;erw[I.tuple (.inl (.of hp)),its,_,tq,_];exact T_ _ _ tq Z X.prog X.w X.xe _ ⟨.bl v_,H,I,1,by simpa [eqN] using q⟩
  |_=>simp [kD] at k2
 |tup xs=>
  cases e with
  |non=>
   obtain⟨p,us,rfl,hp,hl⟩:=(show∃p us,x=V.ref p/\H p=u_ (.tup us)/\IsL H xs us from h1)
   cases(show y= .non from h2)
   cases O;cases U;erw[I.tuple (.inl (.of hp)),its,_,tq,_];exact RA tq Z X.prog X.w X.xe _ ⟨.bl v_,H,I,1,by simpa [eqN] using q⟩
  |str w=>
   obtain⟨p,us,rfl,hp,hl⟩:=(show∃p us,x=V.ref p/\H p=u_ (.tup us)/\IsL H xs us from h1)
   obtain⟨rfl,_⟩:=(show y= .str w/\_ from h2)
   cases O;erw[U,t,rfl];erw[I.tuple (.inl (.of hp)),its,_,tq,_];exact re _ _ tq Z X.prog X.w X.xe _ ⟨.bl v_,H,I,1,by simpa [eqN] using q⟩
  |tup ys=>
   refine op_neTN hu oq s σ H x y v u Q I O U ⟨xs,ys,h1,h2,kL_n (by simpa [kD] using k1),kL_n (by simpa [kD] using k2),?_,by simpa [eqN] using q⟩
   have:dp (.tup xs)=1+dpL xs:=by simp only [dp]
   omega
  |_=>simp [kD] at k2
 |_=>simp [kD] at k1
end
end L2
namespace L2
open PySem PyProof.Rows
theorem ZY {xs:oj V}{us:oj o6}(r:Vals xs us):∀is:oj Nat,Vals (is.filterMap (xs[·]?)) (is.filterMap (us[·]?))
 | []=> .nil
 |i::is=>by
  rw [vM,vM];have U:=r.length;cases e:xs[i]? with
  |none=>
   have:us[i]? =none:=FR (by have:=List.getElem?_eq_none_iff.mp e;omega)
   rw [this];exact ZY r is
  |some x=>
   erw[r.get e,u,O,g];rw [O];exact .cons g (ZY r is)
end L2
namespace L2
open PySem PySem.Spec PyProof.Rows
section
variable {X:Cx}{oq:oj (o3×Obj)}{σ:St}{H:Hp}{s:o7}{d:o3}
theorem tuple_byD {prog:o9}{w:og}{A:oh}{E:o6->o7->Prop}{r:o3}{Q:o6->o7->Prop}{G:oj o6->o7->Prop}(Z:s.TypeIs (.ref r) "dict")
  (U:∀(R:oj o6->o7->Prop) (E':o6->o7->Prop),(∀vs s',G vs s'->R vs s')->UW #[w,w] A.in1.in1 (collect (.ref r)) R E' s)
  (hQ:∀vs s',G vs s'->vs.length<=UY/\Q (.ref s'.heap.objs.size) {s' with heap:=s'.heap.push {cls:= .type "tuple",data:= .seq vs.toArray}}):
  UW #[w,w] A (call (.type "tuple") [.ref r]) Q E s:=by
 have new:Vn #[w,w] A.in1 (.call (.builtin "tuple.__new__") ⟨[.type "tuple",.ref r],[]⟩) (wants (λobj O=>O.TypeIs obj "tuple"/\Q obj O) E) s:=by
  refine codeAny_of_tree ?_;show UW _ A.in1.in1 (do checkBuiltinCall "tuple.__new__" [[.type "tuple",.ref r]:[]];again (.builtin "tuple.__new__" [[.type "tuple",.ref r]:[]])) _ _ s
  refine A4 (tT (PySem.F.newCall_tuple_1 _) (uz [Hx PySem.F.plain_tuple_new _:HD PySem.F.entry_tuple_new ?_]));rw [HY PySem.F.plain_tuple_new _];have s1:=sub_tuple_self;have s2:=init_tuple_lookup;have s3:=madeHere_tuple
  wp_walk using VO Z,U
  intro vs s' hg;erw[hQ vs s' hg,hl,hq];show UW _ _ (G6 vs.toArray>>=λv=>ret v) _ _ _;unfold G6;refine A4 (vj ?_ (by show vs.toArray.size<=UY;simpa using hl))
  exact uz [[_:uE _ rfl:1]:hq]
 refine R8 (Q₁:=λobj O=>O.TypeIs obj "tuple"/\Q obj O) PySem.F.called_tuple (PySem.F.typeCall_tuple_1 _) PySem.F.entry_object_init new λobj O h₁=> ?_;exact[h₁.1:PySem.F.args_object_init_2 obj _:object_init_meets PySem.F.called_tuple.init.lookup PySem.F.called_tuple.made () prog w A.in1 _ O [h₁.1:1:h₁.2]]
end
section
variable {X:Cx}
theorem call_tupleD (hc:X.calm=v_):Yx X (.type "tuple") (λxs H Q=>∃(d:o3) (kvs:oj (Key×V)),xs= [.ref d]/\Rd H d (.dK kvs)/\∀t,H t=UU->Q (.ref t) (upd H t (.tup (kvs.map λp=>kV p.1)))):=by
 intro oq s σ H xs us Q I r h;erw[h,d,kvs,rfl,hd,q];erw[xw r,u,rfl,ru];cases ru;erw[Kv I.hok hd,hz,lo,vs,Z,dd];erw[id dd,o,es,ep,ho];have ac:s.heap.DictAt (Qo X.prog X.w) d vs ep:=[o:es:ho];refine uX (n:=1) I.tk ?_;refine tuple_byD (G:=λus s'=>∃(h':o8) (tk:Nat) (O:Array o6),us=O.toList/\s'={s with heap:=h',toks:=tk}/\(∀b o,s.heap.get? b=u_ o->h'.get? b=u_ o)/\ItemsOf (λi v=>∃k x,vs[i]? =u_ (k,x)/\(Qo X.prog X.w).is k v=v_) O vs.length) dd.typeIs
  (λR E' k=>PySem.W.kdu_collect (A:=X.A.in1.in1) (PySem.W.kdl_dict lo) (I.ok.hd hc) ac (by rwa [<-Z.length]) λh' tk O aa U=>k _ _ ⟨h',tk,O,1,1,aa,U⟩) ?_
 rintro us s' ⟨h',tk,O,rfl,rfl,aa,U⟩;have ad:O.toList.length=vs.length:=by rw [vb,U.1]
 have ae:=Z.length;refine[():λhtk=> ?_]
 have I':Inv X oq σ H {s with heap:=h',toks:=tk}:=I.kept aa htk
 have hv:Vals (kvs.map λp=>kV p.1) O.toList:=by
  refine Kh (by rw [ua];omega) λj x v hx hv=> ?_
  rw [uF] at hx;cases hj:kvs[j]? with
  |none=>rw [hj] at hx;cases hx
  |some p=>
   rw [hj] at hx;cases hx;obtain⟨k,y,e1,e2⟩:=U.2 j v (by rwa [<-HP])
   have e3:=(paired_at Z hj e1).1;show RelV (kV p.1) v;rw [e3];exact kV_rel e2
 refine⟨.ref h'.objs.size,_,I'.laid (t':=tk) (o:= .tup (kvs.map λp=>kV p.1)) (λb u w=>ue _ w) (uh _) ⟨by rwa [ua],O.toList,hv,⟨_,uE _ rfl,1,0⟩⟩ htk,1,q _ (I'.hok.fresh (uh _))⟩
end
section
variable {x q:Str}{st:Stmt}{a b c d:Str}
theorem bo1 (h:∀(kV doc pm:o6) (an:om o3) (cdv ct u:o6),VS (PySem.W.fnOf x q (YD st) (yU st) (qj st) .none kV doc pm an cdv ct) [[u]:[]]=pure [(a,u)]):BOk x q st [a]:=by
 intro k1 k2 k3 U k5 Z us O;rcases us with _|⟨u,_|⟨_,_⟩⟩
 ·cases O
 ·exact h k1 k2 k3 U k5 Z u
 ·cases O
theorem bo2 (h:∀(kV doc pm:o6) (an:om o3) (cdv ct u v:o6),VS (PySem.W.fnOf x q (YD st) (yU st) (qj st) .none kV doc pm an cdv ct) [[u,v]:[]]=pure [(a,u),(b,v)]):BOk x q st [a,b]:=by
 intro k1 k2 k3 U k5 Z us O;rcases us with _|⟨u,_|⟨v,_|⟨_,_⟩⟩⟩
 ·cases O
 ·cases O
 ·exact h k1 k2 k3 U k5 Z u v
 ·cases O
theorem bo3 (h:∀(kV doc pm:o6) (an:om o3) (cdv ct u v w:o6),VS (PySem.W.fnOf x q (YD st) (yU st) (qj st) .none kV doc pm an cdv ct) [[u,v,w]:[]]=pure [(a,u),(b,v),(c,w)]):BOk x q st [a,b,c]:=by
 intro k1 k2 k3 U k5 Z us O;rcases us with _|⟨u,_|⟨v,_|⟨w,_|⟨_,_⟩⟩⟩⟩
 ·cases O
 ·cases O
 ·cases O
 ·exact h k1 k2 k3 U k5 Z u v w
 ·cases O
theorem bo4 (h:∀(kV doc pm:o6) (an:om o3) (cdv ct u v w z:o6),VS (PySem.W.fnOf x q (YD st) (yU st) (qj st) .none kV doc pm an cdv ct) [[u,v,w,z]:[]]=pure [(a,u),(b,v),(c,w),(d,z)]):BOk x q st [a,b,c,d]:=by
 intro k1 k2 k3 U k5 Z us O;rcases us with _|⟨u,_|⟨v,_|⟨w,_|⟨z,_|⟨_,_⟩⟩⟩⟩⟩
 ·cases O
 ·cases O
 ·cases O
 ·cases O
 ·exact h k1 k2 k3 U k5 Z u v w z
 ·cases O
end
section
variable {X:Cx}
inductive ItStpV (K:PySem.W.Frag) (Q:VK) (x:V) (y:V) (H3:Hp):Prop
 |mk (k:Int) (_:y= .int k) (_:k≠0) (a:_) (xs:_) (_:x= .ref a) (_:SqL K H3 a xs) (_:∀ys p,ys.length<=xs.length->(∀y∈ys,y∈xs)->H3 p=UU->Q (.ref p) (upd H3 p (.lst ys)))
noncomputable def tStpV (K:o0)(te:TE)(tl:TO)(tf:TE):TE:=λσ H Q=>te σ H λx H1=>tl σ H1 λ_ H2=>tf σ H2 λy H3=>ItStpV K Q x y H3
theorem pe_stepLV {e f:Expr}{te tf:TE}{lo:om Expr}{tl:TO}{pos p2}(he:PE X e te)(hl:PO X lo tl)(hf:PE X f tf)(U:Gx (.Slice lo UU (u_ f) p2) UV=λv u=>GK [v,u] (Vq v u)):PE X (.Subscript e (.Slice lo UU (u_ f) p2) pos) (tStpV X.K te tl tf):=by
 intro oq s σ H Q I h;refine Hb (thn (he oq s σ H _ I h) λv s1 zq=> ?_);erw[zq,x,H1,I1,r1,q1];refine rX (thn (hl oq s1 σ H1 _ I1 q1) λvl s2 zq=> ?_);erw[zq,lv,H2,I2,pl,q2];rw [HB];refine uz ?_;rw [rA];refine thn (hf oq s2 σ H2 _ I2 q2) λu O h3=> ?_;erw[h3,y,H3,I3,r3,k,rfl,hk,a,xs,rfl,hH,q];erw[r3,tk,rfl];cases r1;have I4:Inv X oq σ H3 {O with heap:=O.heap.push {cls:= .type "slice",data:= .fields #[vl,.none,.int k tk]}}:=I3.kept (t':=O.toks) λb ob q=>ue _ q
 erw[I4.list hH,its,r,Z,hz];have aa:its.toArray.size=xs.length:=by rw [um];exact r.length.symm
 show UW #[X,X] X.A (GS e (.Slice lo UU (u_ f) p2) (.ref a) (.ref O.heap.objs.size)) (EP X oq σ Q) X.xe {O with heap:=O.heap.push {cls:= .type "slice",data:= .fields #[vl,.none,.int k tk]}}
 refine GO (ops:= [.ref a,.ref O.heap.objs.size]) Z.isList.typeIs slot_list_getitem.lookup ?_ (by rw [U])
 refine FH (st:=u_ k) Z.isList (TH ..) pl .none (.int k tk) (by simpa using hk) ?_ (by rwa [aa])
 have hsz:=slicePick_size_le its.toArray lv UU (u_ k);unfold Hv at hsz⊢;generalize sliceRange (VC lv UU (u_ k) its.toArray.size).1 (VC lv UU (u_ k) its.toArray.size).2.1 (VC lv UU (u_ k) its.toArray.size).2.2=is at hsz⊢;have ep:is.filterMap (its.toArray[·]?)=is.filterMap (its[·]?):=by simp
 rw [ep] at hsz⊢;have vp:=ZY r is;have ac:(is.filterMap (xs[·]?)).length<=xs.length:=by
  rw [vp.length];rwa [um,um,<-r.length] at hsz
 refine⟨.ref _,_,I4.laid (t':=O.toks) (o:= .lst (is.filterMap (xs[·]?))) (λb ob q=>ue _ q) (uh _) ⟨uO ac hz,_,(0),vp,uE _ rfl⟩,1,q _ _ ac (λy hy=> ?_) (I4.hok.fresh (uh _))⟩;erw[List.mem_filterMap.mp hy,i,_,hi];exact v5 hi
inductive rIndexS (K:PySem.W.Frag) (x:V) (vs:List V) (H:Hp) (Q:VK):Prop
 |mk (p:Addr) (zs:List Str) (z:Str) (j:Nat) (_:x= .ref p) (_:vs= [.str z]) (_:SqL K H p (zs.map V.str)) (_:zs[j]? =u_ z) (_:(∀m,m<j->zs[m]? ≠u_ z)) (_:zs.length<=100000) (_:Q (.int (j:Int)) H)
theorem mt_indexS:MtM X "list.index" (rIndexS X.K):=by
 intro oq s σ H x vs v us Q I rx rv h;erw[h,p,zs,z,j,rfl,rfl,hp,O,hm,hz,q];cases rx;erw[rv.one,u,rfl,ru];erw[ru,t,rfl];erw[I.list hp,its,r,pl,hl];erw[XG r,ps,rfl,rfl];erw[id pl.isList,[cls,dd,data,sl],ho,hc,n,hd];simp only at hc hd;subst hc hd;have U:Gu ps=ps.map λp=>Vh p.1 p.2:=rfl;rw [uF] at O;have Z:j<ps.length:=by
  cases e:ps[j]? with
  |none=>rw [e] at O;cases O
  |some y=>exact(Aa.mp e).1
 rw [ua] at hz;have at_:∀m (hm:m<(Gu ps).toArray.size),(Gu ps).toArray[m]= .str (ps[m]'(by simpa [U] using hm)).1 (ps[m]'(by simpa [U] using hm)).2:=λm hm=>by simp [U]
 refine vx F.slot_list_index [_:ho:1] F.entry_list_index (F.args_list_index_2 _ _) (SeqAt.list_indexAt p (Gu ps).toArray n dd sl (.str z t) (λy=>match y with| .str c _=>c==z|_=>UV) j (by simpa [U] using Z) () ?_ ?_) [ho:λy hy=> ?_:?_]
 ·rw [at_];rw [ug Z] at O;have:ps[j].1=z:=uH O;simp [this]
 ·intro m ad aa;rw [at_];have ac:m<ps.length:=by omega
  have:=hm m aa;rw [uF,ug ac] at this;have h3:ps[m].1≠z:=λe=>this (congrArg u_ e);simp [h3]
 ·obtain⟨c,_,rfl⟩:=A8.mp (show y∈ps.map λp=>Vh p.1 p.2 by simpa [U] using hy)
  exact UC _ _ _ _
 ·exact⟨.int (j:Int),H,I.tok _,[s.toks:1],q⟩
end
end L2
namespace K25
open PySem L2 PyProof.Rows
open Builtin.Int (intBits)
noncomputable def top (i:Nat):Stmt:=PySem.Challenge.pw_askwright_k25_whole_by_the_project_alone.main.body.getD i (.Pass ⟨(0),(0),(0),(0)⟩)
noncomputable abbrev ZT:Stmt:=top 17
noncomputable abbrev XA:Stmt:=top 18
noncomputable abbrev wM:Stmt:=top 19
noncomputable abbrev ZX:Stmt:=top 21
noncomputable abbrev yV:Stmt:=top 22
noncomputable abbrev xu:Stmt:=top 23
noncomputable abbrev ZU:Stmt:=top 29
noncomputable abbrev xx:Stmt:=top 30
noncomputable abbrev Zv:Stmt:=top 31
noncomputable abbrev Jf:Stmt:=top 32
noncomputable abbrev xJ:Stmt:=top 33
noncomputable abbrev X9:Stmt:=top 34
noncomputable abbrev wv:Stmt:=top 35
noncomputable abbrev xq:Stmt:=top 38
noncomputable abbrev xR:Stmt:=top 39
noncomputable abbrev xO:Stmt:=top 40
noncomputable abbrev zx:Stmt:=top 41
noncomputable abbrev zc:Stmt:=top 42
noncomputable abbrev xy:Stmt:=top 43
noncomputable abbrev j9:Stmt:=top 44
noncomputable abbrev xZ:Stmt:=top 45
noncomputable abbrev xQ:Stmt:=top 46
noncomputable abbrev zf:Stmt:=top 47
noncomputable abbrev xN:Stmt:=top 48
noncomputable abbrev YL:Stmt:=top 50
noncomputable abbrev Yf:Stmt:=top 51
noncomputable abbrev ja:Stmt:=Qg (top 52) 0
noncomputable abbrev ju:Stmt:=Qg (top 52) 1
noncomputable abbrev Ym:Stmt:=Qg (top 52) 2
noncomputable abbrev YG:Stmt:=Qg (top 52) 3
noncomputable abbrev YJ:Stmt:=Qg (top 52) 6
noncomputable abbrev Q6:Stmt:=Qg (top 52) 7
noncomputable abbrev Yh:Stmt:=Qg (top 52) 8
noncomputable abbrev jc:Stmt:=Qg (top 52) 9
noncomputable abbrev Jr:Stmt:=Qg (top 54) 0
noncomputable abbrev js:Stmt:=Qg (top 54) 1
noncomputable abbrev Jg:Stmt:=Qg (top 54) 2
noncomputable abbrev Y8:Stmt:=Qg (top 54) 3
noncomputable abbrev Jq:Stmt:=Qg (top 54) 4
noncomputable abbrev JA:Stmt:=Qg (top 54) 5
noncomputable abbrev yO:Stmt:=Qg (top 55) 0
noncomputable abbrev QN:Stmt:=Qg (top 55) 1
noncomputable abbrev QQ:Stmt:=Qg (top 55) 2
noncomputable abbrev yG:Stmt:=Qg (top 55) 3
noncomputable abbrev yg:Stmt:=Qg (top 55) 4
noncomputable abbrev yj:Stmt:=Qg (top 55) 5
noncomputable abbrev yF:Stmt:=Qg (top 55) 6
noncomputable abbrev yJ:Stmt:=Qg (top 55) 7
noncomputable abbrev QM:Stmt:=Qg (top 55) 8
noncomputable abbrev Yl:Stmt:=top 56
noncomputable abbrev xn:Stmt:=top 57
noncomputable abbrev JN:Stmt:=top 58
noncomputable abbrev jA:Stmt:=top 59
noncomputable abbrev Jt:Stmt:=top 60
noncomputable abbrev Jz:Stmt:=top 61
noncomputable abbrev xj:Stmt:=top 62
noncomputable abbrev zt:Stmt:=top 63
noncomputable abbrev XX:Stmt:=top 64
noncomputable abbrev kW:Stmt:=top 65
noncomputable abbrev xI:Stmt:=top 68
noncomputable abbrev yY:Stmt:=Qg (top 69) 0
noncomputable abbrev jj:Stmt:=Qg (top 69) 1
noncomputable abbrev yi:Stmt:=Qg (top 69) 2
noncomputable abbrev QP:Stmt:=Qg (top 69) 3
noncomputable abbrev jr:Stmt:=top 70
noncomputable abbrev jB:Stmt:=top 72
noncomputable abbrev wj:Stmt:=top 73
noncomputable abbrev zh:Stmt:=top 74
noncomputable abbrev ze:Stmt:=top 75
noncomputable abbrev JO:Stmt:=top 76
noncomputable abbrev JU:Stmt:=top 77
noncomputable abbrev xG:Stmt:=top 78
noncomputable abbrev JW:Stmt:=top 79
noncomputable abbrev Jk:Stmt:=top 80
noncomputable abbrev YB:Stmt:=top 81
noncomputable abbrev X1:Stmt:=top 82
noncomputable abbrev jv:Stmt:=top 83
noncomputable abbrev Yg:Stmt:=top 84
noncomputable abbrev Q3:Stmt:=top 85
noncomputable abbrev jF:Stmt:=top 86
noncomputable abbrev Y9:Stmt:=top 87
noncomputable abbrev s_law:Stmt:=top 88
set_option genInjectivity false in
set_option genSizeOf false in
structure Ad where
 f_is_text:o3
 d_is_text:UX
 f_is_tree:o3
 d_is_tree:UX
 f_is_name:o3
 d_is_name:UX
 f_is_pair:o3
 d_is_pair:UX
 jm:o3
 jh:UX
 wU:o3
 we:UX
 f_part_of:o3
 d_part_of:UX
 wg:o3
 Z0:UX
 f_row_of:o3
 d_row_of:UX
 Za:o3
 zN:UX
 wp:o3
 Z8:UX
 Wu:o3
 WQ:UX
 f_is_rule:o3
 d_is_rule:UX
 xv:o3
 wG:UX
 xY:o3
 ZO:UX
 xH:o3
 ZR:UX
 X4:o3
 W0:UX
 zu:o3
 W4:UX
 xr:o3
 wl:UX
 JK:o3
 zO:UX
 xm:o3
 Z9:UX
 xL:o3
 Zz:UX
 XW:o3
 WY:UX
 xt:o3
 wZ:UX
 Jv:o3
 Ji:UX
 jM:o3
 jN:UX
 Y6:o3
 J5:UX
 XN:o3
 Xx:UX
 jY:o3
 jP:UX
 Ja:o3
 JM:UX
 JF:o3
 Jp:UX
 Yn:o3
 Yo:UX
 jS:o3
 jR:UX
 xf:o3
 J4:UX
 JL:o3
 Ze:UX
 Xl:o3
 XE:UX
 zU:o3
 zD:UX
 J3:o3
 xg:UX
 Zg:o3
 Zc:UX
 zG:o3
 zQ:UX
 yP:o3
 jp:UX
 yK:o3
 yy:UX
 yr:o3
 yt:UX
 Y4:o3
 YX:UX
 YQ:o3
 Yv:UX
 YN:o3
 Ys:UX
 YU:o3
 Y3:UX
 Y0:o3
 YW:UX
 yx:o3
 yB:UX
 jT:o3
 jX:UX
 wO:o3
 wP:UX
 zZ:o3
 zI:UX
 Xk:o3
 Xg:UX
 zK:o3
 Zb:UX
 zR:o3
 zJ:UX
 wY:o3
 ZD:UX
 WD:o3
 WC:UX
 Ww:o3
 WG:UX
 f_met_by:o3
 d_met_by:UX
 Z6:o3
 Z2:UX
 jd:o3
 J7:UX
 zi:o3
 zq:UX
 Yy:o3
 YH:UX
 Yz:o3
 YF:UX
 XL:o3
 XQ:UX
 Xp:o3
 XI:UX
 f_law_pot:o3
 d_law_pot:UX
 WZ:o3
 Wv:UX
 WA:o3
 WX:UX
 W8:o3
 WN:UX
 Wp:o3
 kf:UX
 Zy:o3
 ZK:UX
 Wn:o3
 Wr:UX
 zV:o3
 Zd:UX
 Jj:o3
 JC:UX
 WJ:o3
 ke:UX
 Xs:o3
 XO:UX
 jW:o3
 jU:UX
 jq:o3
 jk:UX
 XS:o3
 Xe:UX
 xc:o3
 xb:UX
 f_law:o3
 d_law:UX
 qp:o3
 qK:o3
 qq:o3
 qF:o3
structure Tx (K:o0)(mg:Str->om o6)(a:Ad):Prop where
 g_is_text:FF K mg "is_text" ZT ["value"] a.f_is_text a.d_is_text
 g_is_tree:FF K mg "is_tree" XA ["value"] a.f_is_tree a.d_is_tree
 g_is_name:FF K mg "is_name" wM ["value"] a.f_is_name a.d_is_name
 g_is_pair:FF K mg "is_pair" ZX ["value"] a.f_is_pair a.d_is_pair
 g_is_row_of_names:FF K mg "is_row_of_names" yV ["tree"] a.jm a.jh
 g_is_answer:FF K mg "is_answer" xu ["ask","answer"] a.wU a.we
 g_part_of:FF K mg "part_of" ZU ["kind","piece","count"] a.f_part_of a.d_part_of
 g_pieces_of:FF K mg "pieces_of" xx ["line","form"] a.wg a.Z0
 g_row_of:FF K mg "row_of" Zv ["line","count"] a.f_row_of a.d_row_of
 g_read_lines:FF K mg "read_lines" Jf ["value"] a.Za a.zN
 g_rule_rows:FF K mg "rule_rows" xJ ["tree"] a.wp a.Z8
 g_bad_line:FF K mg "bad_line" X9 ["tree"] a.Wu a.WQ
 g_is_rule:FF K mg "is_rule" wv ["value"] a.f_is_rule a.d_is_rule
 g_text_made:FF K mg "text_made" xq ["boxes","own","parts"] a.xv a.wG
 g_self_made:FF K mg "self_made" xR ["boxes","own","parts"] a.xY a.ZO
 g_copy_made:FF K mg "copy_made" xO ["boxes","own","parts"] a.xH a.ZR
 g_row_made:FF K mg "row_made" zx ["boxes","own","parts"] a.X4 a.W0
 g_put_made:FF K mg "put_made" zc ["boxes","own","parts"] a.zu a.W4
 g_join_made:FF K mg "join_made" xy ["boxes","own","parts"] a.xr a.wl
 g_first_made:FF K mg "first_made" j9 ["boxes","own","parts"] a.JK a.zO
 g_rest_made:FF K mg "rest_made" xZ ["boxes","own","parts"] a.xm a.Z9
 g_size_made:FF K mg "size_made" xQ ["boxes","own","parts"] a.xL a.Zz
 g_cut_made:FF K mg "cut_made" zf ["boxes","own","parts"] a.XW a.WY
 g_glue_made:FF K mg "glue_made" xN ["boxes","own","parts"] a.xt a.wZ
 g_is_jump_taken:FF K mg "is_jump_taken" YL ["boxes","word","parts"] a.Jv a.Ji
 g_asked_or_fault:FF K mg "asked_or_fault" Yf ["word","held"] a.jM a.jN
 g_Machine_init:FM K a.qp "__init__" "Machine.__init__" ja ["self","rule","own"] a.Y6 a.J5
 g_Machine_now:FM K a.qp "now" "Machine.now" ju ["self"] a.XN a.Xx
 g_Machine_answer:FM K a.qp "answer" "Machine.answer" Ym ["self","tree"] a.jY a.jP
 g_Machine_asked:FM K a.qp "asked" "Machine.asked" YG ["self"] a.Ja a.JM
 g_Machine_go_on:FM K a.qp "go_on" "Machine.go_on" YJ ["self"] a.JF a.Jp
 g_Machine_is_waiting:FM K a.qp "is_waiting" "Machine.is_waiting" Q6 ["self"] a.Yn a.Yo
 g_Machine_do_row:FM K a.qp "do_row" "Machine.do_row" Yh ["self","row"] a.jS a.jR
 g_Machine_hold:FM K a.qp "hold" "Machine.hold" jc ["self","box","tree"] a.xf a.J4
 g_Going_init:FM K a.qK "__init__" "Going.__init__" Jr ["self","name","source","order"] a.JL a.Ze
 g_Going_begin:FM K a.qK "begin" "Going.begin" js ["self","rule"] a.Xl a.XE
 g_Going_look:FM K a.qK "look" "Going.look" Jg ["self"] a.zU a.zD
 g_Going_wanted:FM K a.qK "wanted" "Going.wanted" Y8 ["self"] a.J3 a.xg
 g_Going_take:FM K a.qK "take" "Going.take" Jq ["self","answer"] a.Zg a.Zc
 g_Going_full:FM K a.qK "full" "Going.full" JA ["self"] a.zG a.zQ
 g_PlainOrder_init:FM K a.qq "__init__" "PlainOrder.__init__" yO ["self","project"] a.yP a.jp
 g_PlainOrder_begin_anew:FM K a.qq "begin_anew" "PlainOrder.begin_anew" QN ["self","project"] a.yK a.yy
 g_PlainOrder_go_through:FM K a.qq "go_through" "PlainOrder.go_through" QQ ["self","name"] a.yr a.yt
 g_PlainOrder_enter:FM K a.qq "enter" "PlainOrder.enter" yG ["self","name"] a.Y4 a.YX
 g_PlainOrder_settle:FM K a.qq "settle" "PlainOrder.settle" yg ["self","going"] a.YQ a.Yv
 g_PlainOrder_runner:FM K a.qq "runner" "PlainOrder.runner" yj ["self","rule","own"] a.YN a.Ys
 g_PlainOrder_leave:FM K a.qq "leave" "PlainOrder.leave" yF ["self","going"] a.YU a.Y3
 g_PlainOrder_go_on:FM K a.qq "go_on" "PlainOrder.go_on" yJ ["self","going"] a.Y0 a.YW
 g_PlainOrder_answer_yet:FM K a.qq "answer_yet" "PlainOrder.answer_yet" QM ["self","name"] a.yx a.yB
 g_answer_at_once:FF K mg "answer_at_once" Yl ["source"] a.jT a.jX
 g_answer_by:FF K mg "answer_by" xn ["end"] a.wO a.wP
 g_check_name:FF K mg "check_name" JN ["name"] a.zZ a.zI
 g_check_names:FF K mg "check_names" jA ["names"] a.Xk a.Xg
 g_order_from:FF K mg "order_from" Jt ["project","name"] a.zK a.Zb
 g_order_over:FF K mg "order_over" Jz ["project","names"] a.zR a.zJ
 g_answer_of:FF K mg "answer_of" xj ["project","name"] a.wY a.ZD
 g_full_run:FF K mg "full_run" zt ["project","name"] a.WD a.WC
 g_chain_of:FF K mg "chain_of" XX ["project","name"] a.Ww a.WG
 g_met_by:FF K mg "met_by" kW ["project","name"] a.f_met_by a.d_met_by
 g_is_source:FF K mg "is_source" xI ["value"] a.Z6 a.Z2
 g_Project_init:FM K a.qF "__init__" "Project.__init__" yY ["self","sources"] a.jd a.J7
 g_Project_sources:FM K a.qF "sources" "Project.sources" jj ["self"] a.zi a.zq
 g_Project_source_of:FM K a.qF "source_of" "Project.source_of" yi ["self","name"] a.Yy a.YH
 g_Project_looked_up:FM K a.qF "looked_up" "Project.looked_up" QP ["self","ask"] a.Yz a.YF
 g_longest_row:FF K mg "longest_row" jr ["names"] a.XL a.XQ
 g_law_cell_at:FF K mg "_law_cell_at" jB ["script","k"] a.Xp a.XI
 g_law_pot:FF K mg "_law_pot" wj ["cell","salt"] a.f_law_pot a.d_law_pot
 g_law_take:FF K mg "_law_take" zh ["pot","many"] a.WZ a.Wv
 g_law_word:FF K mg "_law_word" ze ["pot","names"] a.WA a.WX
 g_law_line:FF K mg "_law_line" JO ["pot","names","many","k"] a.W8 a.WN
 g_law_rule:FF K mg "_law_rule" JU ["pot","names"] a.Wp a.kf
 g_law_maker:FF K mg "_law_maker" xG ["pot","names"] a.Zy a.ZK
 g_law_leaf:FF K mg "_law_leaf" JW ["pot","names"] a.Wn a.Wr
 g_law_source:FF K mg "_law_source" Jk ["pot","names"] a.zV a.Zd
 g_law_all_names:FF K mg "_law_all_names" YB ["script"] a.Jj a.JC
 g_law_link:FF K mg "_law_link" X1 ["pot","names","k"] a.WJ a.ke
 g_law_sources:FF K mg "_law_sources" jv ["script"] a.Xs a.XO
 g_law_wide_names:FF K mg "_law_wide_names" Yg ["script"] a.jW a.jU
 g_law_drawn_names:FF K mg "_law_drawn_names" Q3 ["script","salt","many"] a.jq a.jk
 g_law_touched:FF K mg "_law_touched" jF ["project","other","name","changed"] a.XS a.Xe
 g_law_all_told:FF K mg "_law_all_told" Y9 ["project","name"] a.xc a.xb
 g_law:FF K mg "law" s_law ["script"] a.f_law a.d_law
 qw:Cls K a.qp
 M_Machine:Mk K a.qp a.Y6
 m_Machine:mg "Machine"=u_ (.ref a.qp)
 yZ:QI K a.qp "rows"
 Wa:QI K a.qp "rule"
 XH:QI K a.qp "own"
 Qu:QI K a.qp "boxes"
 Qj:QI K a.qp "place"
 Q8:QI K a.qp "done"
 Yt:QI K a.qp "given"
 qL:QI K a.qp "there"
 qR:Cls K a.qK
 M_Going:Mk K a.qK a.JL
 m_Going:mg "Going"=u_ (.ref a.qK)
 Yd:QI K a.qK "name"
 XB:QI K a.qK "order"
 yL:QI K a.qK "made_by"
 yR:QI K a.qK "rule_asks"
 qW:QI K a.qK "rule_run"
 QY:QI K a.qK "end"
 qx:Cls K a.qq
 M_PlainOrder:Mk K a.qq a.yP
 m_PlainOrder:mg "PlainOrder"=u_ (.ref a.qq)
 Qc:QI K a.qq "given_project"
 QC:QI K a.qq "stack"
 Qw:QI K a.qq "under_way"
 Qe:QI K a.qq "full_runs"
 QB:QI K a.qq "found"
 Ya:Cls K a.qF
 wx:Mk K a.qF a.jd
 wR:mg "Project"=u_ (.ref a.qF)
 Q4:QI K a.qF "by_name"
 m_MOST_SIGNS:∃t,mg "MOST_SIGNS"=u_ (.int 300 t)
 m_MOST_PARTS:∃t,mg "MOST_PARTS"=u_ (.int 40 t)
 m_MOST_SIZE:∃t,mg "MOST_SIZE"=u_ (.int 600 t)
 m_MOST_DEPTH:∃t,mg "MOST_DEPTH"=u_ (.int 12 t)
 X8:∃t,mg "MOST_NAME_SIGNS"=u_ (.int 24 t)
 m_LETTERS:∃t,mg "LETTERS"=u_ (.str "abcdefghijklmnopqrstuvwxyz" t)
 m_NAME_SIGNS:∃t,mg "NAME_SIGNS"=u_ (.str "abcdefghijklmnopqrstuvwxyz0123456789./" t)
 m_PERCENT:∃t,mg "PERCENT"=u_ (.int 37 t)
 m_MOST_LINES:∃t,mg "MOST_LINES"=u_ (.int 40 t)
 m_MOST_DONE:∃t,mg "MOST_DONE"=u_ (.int 300 t)
 m_MOST_NAMES:∃t,mg "MOST_NAMES"=u_ (.int 60 t)
 z_ord:mg "ord"=UU
 yE:mg "len"=UU
 qT:mg "isinstance"=UU
 zn:mg "str"=UU
 Qy:mg "tuple"=UU
 z_all:mg "all"=UU
 z_int:mg "int"=UU
 jG:mg "range"=UU
 z_zip:mg "zip"=UU
 z_dict:mg "dict"=UU
 z_sorted:mg "sorted"=UU
 z_abs:mg "abs"=UU
 z_min:mg "min"=UU
 z_sum:mg "sum"=UU
 z_max:mg "max"=UU
theorem Wo:qv ["value","sign"] ["value"] (qj ZT):=by trivial
theorem yo:qv ["value","size","waiting","pair","part","depth"] ["value"] (qj XA):=by trivial
theorem sc_is_name:qv ["value"] ["value"] (qj wM):=by trivial
theorem sc_is_pair:qv ["value"] ["value"] (qj ZX):=by trivial
theorem XD:qv ["tree"] ["tree"] (qj yV):=by trivial
theorem sc_is_answer:qv ["ask","answer"] ["ask","answer"] (qj xu):=by trivial
theorem WF:qv ["kind","piece","count","numbers"] ["kind","piece","count"] (qj ZU):=by trivial
theorem sc_pieces_of:qv ["line","form"] ["line","form"] (qj xx):=by trivial
theorem JH:qv ["line","count","word","form","pieces","parts"] ["line","count"] (qj Zv):=by trivial
theorem Yp:qv ["value","rows","line","row"] ["value"] (qj Jf):=by trivial
theorem Zh:qv ["tree","read"] ["tree"] (qj xJ):=by trivial
theorem sc_bad_line:qv ["tree"] ["tree"] (qj X9):=by trivial
theorem sc_is_rule:qv ["value"] ["value"] (qj wv):=by trivial
theorem sc_text_made:qv ["boxes","own","parts"] ["boxes","own","parts"] (qj xq):=by trivial
theorem sc_self_made:qv ["boxes","own","parts"] ["boxes","own","parts"] (qj xR):=by trivial
theorem sc_copy_made:qv ["boxes","own","parts"] ["boxes","own","parts"] (qj xO):=by trivial
theorem sc_row_made:qv ["boxes","own","parts"] ["boxes","own","parts"] (qj zx):=by trivial
theorem wD:qv ["boxes","own","parts","row"] ["boxes","own","parts"] (qj zc):=by trivial
theorem Jx:qv ["boxes","own","parts","one","other"] ["boxes","own","parts"] (qj xy):=by trivial
theorem XF:qv ["boxes","own","parts","whole"] ["boxes","own","parts"] (qj j9):=by trivial
theorem zE:qv ["boxes","own","parts","whole"] ["boxes","own","parts"] (qj xZ):=by trivial
theorem sc_size_made:qv ["boxes","own","parts"] ["boxes","own","parts"] (qj xQ):=by trivial
theorem xM:qv ["boxes","own","parts","whole","between"] ["boxes","own","parts"] (qj zf):=by trivial
theorem JG:qv ["boxes","own","parts","row","between"] ["boxes","own","parts"] (qj xN):=by trivial
theorem Zo:qv ["boxes","word","parts"] ["boxes","word","parts"] (qj YL):=by trivial
theorem X2:qv ["word","held"] ["word","held"] (qj Yf):=by trivial
theorem ZE:qv ["self","rule","own"] ["self","rule","own"] (qj ja):=by trivial
theorem We:qv ["self"] ["self"] (qj ju):=by trivial
theorem jl:qv ["self","tree","ask"] ["self","tree"] (qj Ym):=by trivial
theorem Zk:qv ["self"] ["self"] (qj YG):=by trivial
theorem Zn:qv ["self"] ["self"] (qj YJ):=by trivial
theorem Jl:qv ["self"] ["self"] (qj Q6):=by trivial
theorem yT:qv ["self","row","word","parts"] ["self","row"] (qj Yh):=by trivial
theorem wW:qv ["self","box","tree"] ["self","box","tree"] (qj jc):=by trivial
theorem Ko:qv ["self","name","source","order"] ["self","name","source","order"] (qj Jr):=by trivial
theorem w8:qv ["self","rule"] ["self","rule"] (qj js):=by trivial
theorem Kf:qv ["self"] ["self"] (qj Jg):=by trivial
theorem ZN:qv ["self"] ["self"] (qj Y8):=by trivial
theorem Kx:qv ["self","answer"] ["self","answer"] (qj Jq):=by trivial
theorem XT:qv ["self","asks"] ["self"] (qj JA):=by trivial
theorem Xn:qv ["self","project"] ["self","project"] (qj yO):=by trivial
theorem ji:qv ["self","project"] ["self","project"] (qj QN):=by trivial
theorem QH:qv ["self","name","top","missing"] ["self","name"] (qj QQ):=by trivial
theorem xl:qv ["self","name"] ["self","name"] (qj yG):=by trivial
theorem JY:qv ["self","going"] ["self","going"] (qj yg):=by trivial
theorem JX:qv ["self","rule","own"] ["self","rule","own"] (qj yj):=by trivial
theorem xB:qv ["self","going"] ["self","going"] (qj yF):=by trivial
theorem ym:qv ["self","going","ask","answer"] ["self","going"] (qj yJ):=by trivial
theorem yn:qv ["self","name","at_once"] ["self","name"] (qj QM):=by trivial
theorem zB:qv ["source"] ["source"] (qj Yl):=by trivial
theorem sc_answer_by:qv ["end"] ["end"] (qj xn):=by trivial
theorem kt:qv ["name"] ["name"] (qj JN):=by trivial
theorem xi:qv ["names","name"] ["names"] (qj jA):=by trivial
theorem kn:qv ["project","name"] ["project","name"] (qj Jt):=by trivial
theorem jE:qv ["project","names","order","name"] ["project","names"] (qj Jz):=by trivial
theorem sc_answer_of:qv ["project","name"] ["project","name"] (qj xj):=by trivial
theorem wf:qv ["project","name","order"] ["project","name"] (qj zt):=by trivial
theorem yW:qv ["project","name","order","answer","names","after"] ["project","name"] (qj XX):=by trivial
theorem sc_met_by:qv ["project","name"] ["project","name"] (qj kW):=by trivial
theorem sc_is_source:qv ["value"] ["value"] (qj xI):=by trivial
theorem yH:qv ["self","sources","by_name","name","source"] ["self","sources"] (qj yY):=by trivial
theorem J0:qv ["self","name"] ["self","name"] (qj yi):=by trivial
theorem JZ:qv ["self","ask"] ["self","ask"] (qj QP):=by trivial
theorem y7:qv ["names","row","name"] ["names"] (qj jr):=by trivial
theorem Wk:qv ["script","k"] ["script","k"] (qj jB):=by trivial
theorem Yr:qv ["cell","salt","step","big","k"] ["cell","salt"] (qj wj):=by trivial
theorem wc:qv ["pot","many","digit"] ["pot","many"] (qj zh):=by trivial
theorem ZF:qv ["pot","names","some"] ["pot","names"] (qj ze):=by trivial
theorem yl:qv ["pot","names","many","k","words","word","one","two","three","at"] ["pot","names","many","k"] (qj JO):=by trivial
theorem jD:qv ["pot","names","body","many","lines"] ["pot","names"] (qj JU):=by trivial
theorem YT:qv ["pot","names","asked","lines"] ["pot","names"] (qj xG):=by trivial
theorem wK:qv ["pot","names","kind"] ["pot","names"] (qj JW):=by trivial
theorem XJ:qv ["pot","names","kind"] ["pot","names"] (qj Jk):=by trivial
theorem Yk:qv ["script","first","names"] ["script"] (qj YB):=by trivial
theorem ZA:qv ["pot","names","k","other"] ["pot","names","k"] (qj X1):=by trivial
theorem QT:qv ["script","names","pairs","k","cell","pot"] ["script"] (qj jv):=by trivial
theorem jf:qv ["script","names"] ["script"] (qj Yg):=by trivial
theorem yI:qv ["script","salt","many","pot","names"] ["script","salt","many"] (qj Q3):=by trivial
theorem QV:qv ["project","other","name","changed","met","asks","end","ask","answer"] ["project","other","name","changed"] (qj jF):=by trivial
theorem Yu:qv ["project","name","run"] ["project","name"] (qj Y9):=by trivial
theorem jg:qv ["script","pairs","project","names","turned","k","again","changed","rest","other","name","told"] ["script"] (qj s_law):=by trivial
structure Ga where
 (boxes asking forms makers br bn:o3)
noncomputable def NOMK:oj Str:= ["ask","has","names","go","like","rowed","none","say","fault"]
structure Fx (K:o0)(w:og)(mg:Str->om o6)(g:Ga)(a:Ad):Prop where
 m_BOXES:mg "BOXES"=u_ (.ref g.boxes)
 m_ASKING:mg "ASKING"=u_ (.ref g.asking)
 m_FORMS:mg "FORMS"=u_ (.ref g.forms)
 m_MAKERS:mg "MAKERS"=u_ (.ref g.makers)
 boxes:∀H,SqT K H g.boxes (BX.map V.str)
 asking:∀H,SqT K H g.asking [.str "ask",.str "has",.str "names"]
 kd:KDict K w g.forms
 forms:∀x∈FRM,∃q,PySem.W.nsIn K g.forms x.1=u_ (u_ (.ref q))/\∀H,SqT K H q (x.2.map λk=>V.str k.t)
 km:KDict K w g.makers
 k_text:PySem.W.nsIn K g.makers "text"=u_ (u_ (.ref a.xv))
 k_self:PySem.W.nsIn K g.makers "self"=u_ (u_ (.ref a.xY))
 k_copy:PySem.W.nsIn K g.makers "copy"=u_ (u_ (.ref a.xH))
 k_row:PySem.W.nsIn K g.makers "row"=u_ (u_ (.ref a.X4))
 k_put:PySem.W.nsIn K g.makers "put"=u_ (u_ (.ref a.zu))
 k_join:PySem.W.nsIn K g.makers "join"=u_ (u_ (.ref a.xr))
 k_first:PySem.W.nsIn K g.makers "first"=u_ (u_ (.ref a.JK))
 k_rest:PySem.W.nsIn K g.makers "rest"=u_ (u_ (.ref a.xm))
 k_size:PySem.W.nsIn K g.makers "size"=u_ (u_ (.ref a.xL))
 k_cut:PySem.W.nsIn K g.makers "cut"=u_ (u_ (.ref a.XW))
 k_glue:PySem.W.nsIn K g.makers "glue"=u_ (u_ (.ref a.xt))
 k_no:∀z∈NOMK,PySem.W.nsIn K g.makers z=u_ UU
 none_:∀z,J2 z=UU->PySem.W.nsIn K g.forms z=u_ UU
 m_BadRule:mg "BadRule"=u_ (.ref g.br)
 x_BadRule:PySem.W.excIn K g.br VE "ValueError.__new__"=v_
 m_BadName:mg "BadName"=u_ (.ref g.bn)
 x_BadName:PySem.W.excIn K g.bn VE "ValueError.__new__"=v_
variable {n:Nat}
theorem yq (h:n<=1000):n<=sizeLine:=UO (XM h)
theorem sml (h:Nat.ble n 1000=v_):n<=sizeLine:=yq (Nat.le_of_ble_eq_true h)
theorem fits (h:n<=16000000):n<=sizeLine:=by rw [uA];omega
variable {i:Int}
theorem JE {α:Type}{xs:oj α}{c:α}(h:atI xs i=u_ c):c∈xs:=by
 unfold atI at h;erw[Option.bind_eq_some_iff.mp h,j,_,e];exact v5 e
end K25
namespace K25
open PySem L2 PyProof.Rows
variable {z:Str}
theorem okText_long (h:300<z.length):Qx z=false:=by
 unfold Qx;rw [ud ()]
 rfl
noncomputable def isTx:D->Bool
 | .str z=>Qx z
 |_=>UV
inductive Wl (vs:List V) (H:Hp) (Q:VK) (E_:XK):Prop
 |mk (v:_) (d:_) (_:vs= [v]) (_:Is H d v) (_:Q (.bl (isTx d)) H)
inductive WB (vs:List V) (H:Hp) (Q:VK) (E_:XK):Prop
 |mk (v:_) (d:_) (_:vs= [v]) (_:Is H d v) (_:∀H',Same H H'->Q (.bl (isT d)) H')
noncomputable def pr (p:D×Nat):D:= .tup [p.1,.int (p.2:Int)]
theorem okText_bad {i c:Nat}(h:z.cps[i]? =u_ c)(O:QE c=UV):Qx z=false:=by
 unfold Qx;have hm:c∈z.cps.toList:=by
  have:z.cps.toList[i]? =u_ c:=by simpa using h
  exact v5 this
 have:z.cps.toList.all QE=false:=by
  rw [List.all_eq_false];exact⟨c,hm,by rw [O];exact u9⟩
 rw [this,Hw]
section
variable {P:o9}{w:og}{K:o0}{mg:Str->om o6}{base:o8}{a:Ad}
theorem W5 (T:Tx K mg a):#[K,1,a.f_is_text,a.d_is_text,["value"],Wl]:=by
 exists 9,T.g_is_text,Wo
 erw[h,v,d,rfl,hv,k];exists _,%[@qI _ _ _ _ _ _ _ _ #[Zm,#[Qz,#[Qq,#[qz,#[qZ,2,rfl],T.qT,uY,#v[pv 0,#[Q7,.ty "str",T.zn,Us]]]]],#[J6,#[qr,kz,#[qz,zS,T.yE,uG,#v[pv 0]],#[kG,T.m_MOST_SIGNS],qC _]]].pt %[|#[qu,je]] qy,#[jV,#[pi_str,4,pv 0],#[qV,(1),Wo.nd],%[|@qI _ _ _ _ _ _ _ _ #[Zm,#[qr,op_lt_str,pv 1,qo,qC _],#[Zm,#[qr,op_gt_str,pv 1,qo,qC _],#[J6,#[qr,QD,#[qz,call_ord,T.z_ord,boot_ord,#v[pv 1]],#[kG,T.m_PERCENT],qC _]]]].pt %[|#[qu,je]] qy]]|#[qu,je]]
 exists 7
 exists 0,v,"str",tyD d,isStr d,1,hv.ty,jw d,0;cases d with
 |str z=>
  erw[hv,rfl,hz];refine iteF ?_;exists 0,z,1,hz,_,0,1,0;refine ite2 (λc=> ?_) (λc=> ?_)
  ·have c':(300:Int)<(z.length:Int):=uj c;have e:isTx (.str z)=false:=okText_long ()
   rwa [e] at k
  ·have c':¬(300:Int)<(z.length:Int):=λq=>c (ub q);exists 0,z,1
   let J1_:Nat->L2.St->Hp->Prop:=λi σ H'=>(∃x,σ= [u_ (.str z),x])/\H'=H/\(z.cps.toList.take i).all QE=v_
   refine for_str J1_ [⟨0⟩:1:1] ?_ ?_
   ·rintro i c σ H' hc ⟨⟨x,rfl⟩,rfl,O⟩;have U:QE c=UV->Q (.bl UV) H':=λe=>by
     have e':isTx (.str z)=false:=okText_bad hc e;rwa [e'] at k
    exists 0,_,0,1,0;rw [show decide ((⟨#[c]⟩:Str).cps.toList<(" ":Str).cps.toList)=decide (c<32) from lt_one c 32]
    refine ite2 (λc1=> ?_) (λc1=> ?_)
    ·refine iteT (U ?_);have:=uj c1;unfold QE;rw [ud ()]
     rfl
    ·have aa:¬c<32:=λq=>c1 (ub q);exists 0,_,0,1,0;rw [show decide (("~":Str).cps.toList<(⟨#[c]⟩:Str).cps.toList)=decide (126<c) from one_gt c 126]
     refine ite2 (λc2=> ?_) (λc2=> ?_)
     ·refine iteT (U ?_);have:=uj c2;unfold QE;rw [ud (p:=c<=126) (),Hw]
      rfl
     ·have ac:¬126<c:=λq=>c2 (ub q);exists 0,0,1,1,0;refine ite2 (λc3=> ?_) (λc3=> ?_)
      ·have Z:c=37:=by
        have:=uj c3;have:=V.int.inj this;exact Rf this
       exact U (by subst Z;rfl)
      ·have Z:c≠37:=λq=>c3 (ub (by rw [q];rfl))
       exists ⟨0⟩,1;rw [vq,show z.cps.toList[i]? =u_ c by simpa using hc,UD,O]
       show(v_&&(QE c&&v_))=v_;unfold QE;rw [ub (),ub (p:=c<=126) (),ub Z]
       rfl
   ·rintro σ H' ⟨⟨x,rfl⟩,rfl,O⟩;have e:isTx (.str z)=true:=by
     show Qx z=v_;unfold Qx;rw [uZ (by simp)] at O
     rw [O,ub ()]
     rfl
    rwa [e] at k
 |_=>exact iteT (iteT k)
theorem map_snoc {α β:Type}(f:α->β)(xs:oj α)(x:α):(xs++ [x]).map f=xs.map f++ [f x]:=by simp
theorem last_at {α:Type}(us:oj α)(x:α):(us++ [x])[(us++ [x]).length-1]? =u_ x:=by simp
theorem drop_last {α:Type}(us:oj α)(x:α):(us++ [x]).dropLast=us:=by simp
noncomputable def Wt (v:V)(d:D)(H:Hp)(L:o3)(m:Nat)(σ:L2.St)(H':Hp):Prop:=
 ∃(n:Nat) (w:oj (D×Nat)) (ws:oj V) (x3 x4 x5:om V),σ= [u_ v,u_ (.int n),u_ (.ref L),x3,x4,x5]/\Same H H'/\H' L=u_ (.lst ws)/\IsL H' (w.map pr) ws/\G w n=isT d/\n<=600/\w.length<=1+40*n/\m=ndL (w.map (·.1))
theorem jo (T:Tx K mg a):#[K,2,a.f_is_tree,a.d_is_tree,["value"],WB]:=by
 have Z3:=#[W5,T];refine T.g_is_tree.F.ok yo () (λ_ _ _ _ H vs Q E hr h=> ?_)
 erw[h,v,d,rfl,hv,k];exists _,%[#[qE,(1),yo.nd,qm],#[qE,(2),yo.nd,#[QK,#v[#[qG,#v[pv 0,qm]]]]],#[Xm,#[pt_truth,3,pv 2,(λ_=>rfl)],%[#[qE,(3),yo.nd,#[pe_bm0,9,uK,PySem.F.slot_list_pop,PySem.F.type_list_pop,mt_pop,pv 2,_,_]],#[qE,(4),yo.nd,#[qQ,qP,pv 3,qm]],#[qE,2,(5),4,yo.nd,rfl,VL rfl,#[qQ,qP,pv 3,qm],_,_],@qI _ _ _ _ _ _ _ _ #[pw_and,7,#[Qq,#[qz,#[qZ,2,rfl],T.qT,uY,#v[pv 4,#[Q7,.ty "tuple",T.Qy,vf]]]],#[Ki,4,#[qr,op_le,#[qz,kU,T.yE,uG,#v[pv 4]],#[kG,T.m_MOST_PARTS],qC _]]].pt %[#[ps_aug,2,(1),6,yo.nd,rfl,Ge rfl,qm,ip_add,_]|#[Qa,#[YR,uK,PySem.F.slot_list_extend,PySem.F.type_list_extend,mt_extend,pv 2,#v[#[zw,["below","depth"],[5],lcsN (qj XA) ["value","size","waiting","pair","part","depth"],#[Kg,4,pv 4],(λ_ _ _ _ _ _=>#[qV,(0),(show Vi (["below","depth"]:oj Str) by decide+kernel)]),(λ_ _ _ _ _ _=>#[qG,#v[pv 0,#[qX,ya,pv 1,qm]]])]]]]] %[|#[qI,#[Qq,#[qt,Z3,hr.mono (),T.g_is_text,#v[pv 4]]],%[|#[ps_aug,2,(1),6,yo.nd,rfl,Ge rfl,#[qX,ya,qm,#[qz,kU,T.yE,uG,#v[pv 4]]],ip_add,_]],%[|#[qu,je]]]]|@qI _ _ _ _ _ _ _ _ #[Zm,#[qr,kz,pv 5,#[kG,T.m_MOST_DEPTH],qC _],#[J6,#[qr,kz,pv 1,#[kG,T.m_MOST_SIZE],qC _]]].pt %[|#[qu,je]] qy]]|#[qu,je]]
 exists 7
 have no:∀{H':Hp}{w:oj (D×Nat)}{n:Nat},Same H H'->G w n=isT d->G w n=UV->Q (.bl UV) H':=λ{H' w n} sm e1 e2=>by
  have q:=k H' sm;rwa [<-e1,e2] at q
 refine[0:(sml rfl):λt1 h1=>[(sml rfl):λL hL=> ?_]];have s1:Same H (upd H t1 (.tup [v,.int 1])):=qh h1 _;have s2:Same H (upd (upd H t1 (.tup [v,.int 1])) L (.lst [.ref t1])):=s1.trans (qh hL _);have ak:H L=none:=s1.free hL;have i1:Is (upd H t1 (.tup [v,.int 1])) (pr (d,1)) (.ref t1):=Is.new (ds:= [d,.int 1]) ⟨v,0,hv,_,0,1,1⟩ h1;exists Wt v d H L,⟨_,(0),[(d,1)],[.ref t1],UU,UU,UU,1,s2,qi,IsL.one (i1.mono (qh hL _).tk),G_start d,(),by simp,1⟩
 rintro m σ H' ⟨n,w,ws,x3,x4,x5,rfl,sm,hl,hw,hG,hn,ao,rfl⟩;exists 0,!ws.isEmpty,.inl [ws:SqL.of hl:1];rcases Tw w with rfl|⟨w',⟨e,j⟩,rfl⟩
 ·cases(show ws= [] from hw)
  refine iteF ?_;have q:=k H' sm;rwa [<-hG,G_nil hn] at q
 ·rw [FB] at*;rw [map_snoc] at hw;erw[hw.unsnoc,us,x,rfl,hu,hx];have ne:(!(us++ [x]).isEmpty)=true:=by simp
  rw [ne];refine iteT ⟨λσ' ap=>∃m',m'<ndL ((w'++ [(e,j)]).map (·.1))/\Wt v d H L m' σ' ap,λ_ _ h=>h,?_⟩;have hm:ndL ((w'++ [(e,j)]).map (·.1))=ndL (w'.map (·.1))+nd e:=by
   rw [map_snoc,X6];simp [ndL]
  have au:w'.length<=40*n:=by
   rw [uu,uV] at ao;omega
  have lu:=hu.length;rw [ua] at lu;exists 0,.inl [1:_:SqL.of hl],L,_,x,1,1,hl,last_at us x;rw [drop_last];have t2:Tk H' (upd H' L (.lst us)):=Tk.updL hl;have O:Same H (upd H' L (.lst us)):=λb o z=>by rw [qk (ql z ak)];exact sm b o z
  have ae:Is (upd H' L (.lst us)) (.tup [e,.int (j:Int)]) x:=hx.mono t2;have af:IsL (upd H' L (.lst us)) (w'.map pr) us:=hu.mono t2;have U:upd H' L (.lst us) L=u_ (.lst us):=qi;generalize upd H' L (.lst us)=H2 at t2 O ae af U⊢;clear t2 hl hx hu sm;refine[0:xS (i:=0) ae rfl λy hy=> ?_];refine[0:xS (i:=1) ae rfl λy1 aq=> ?_];cases(show y1= .int (j:Int) from aq)
  show tSeq _ _ _ _ H2;refine qJ λN0 n0=>n0 _ _ ?_;exists 8,BB,bb;have ad:∀(n':Nat) (w2:oj (D×Nat)) (aa:oj V) (H3:Hp),Same H H3->H3 L=u_ (.lst aa)->IsL H3 (w2.map pr) aa->(j<=12->n'<=600->G w2 n'=isT d)->(12<j∨600<n'->isT d=UV)->w2.length<=1+40*n'->ndL (w2.map (·.1))<ndL ((w'++ [(e,j)]).map (·.1))->
    BB [u_ v,u_ (V.int (n':Int)),u_ (V.ref L),u_ x,u_ y,u_ (V.int (j:Int))] H3:=by
   intro n' w2 aa H3 s3 l3 i3 g3 b3 al m3;have am:isT d=UV->Q (.bl UV) H3:=λe=>by
    have q:=k H3 s3;rwa [e] at q
   refine bb _ _ ?_;exists 0,_,0,1,0;refine ite2 (λc=>iteT (am (b3 (.inl ?_)))) (λc=>⟨0,_,0,1,0,?_⟩)
   ·have:=uj c;omega
   ·have c':¬(12:Int)<(j:Int):=λq=>c (ub q);refine ite2 (λc2=>am (b3 (.inr ?_))) (λc2=> ?_)
    ·have:=uj c2;omega
    ·have aw:¬(600:Int)<(n':Int):=λq=>c2 (ub q);exact⟨_,m3,n',w2,aa,_,_,0,s3,l3,i3,g3 () (),(),al,1⟩
  exists 0,y,"tuple",tyD e,zd e,1,hy.ty,xU e,0;cases e with
  |tup xs=>
   refine iteT ?_;erw[hy,a0,vs,rfl,ac,ag];have lv:=ag.length;exists 0,_,vs.length,1,.inr [vs:SqT.of ac:1],_,0,1,0;refine ite2 (λc=> ?_) (λc=> ?_)
   ·have c':(vs.length:Int)<=40:=uj c;exists 0,_,0,1;refine⟨0,.inl [1:_:SqL.of U],0,a0,vs,1,SqT.of ac,λax A0 ah=> ?_⟩;refine lc_tupS (tl:= [u_ (.int (j:Int))]) (λZ=> .tup [Z,.int ((j+1:Nat):Int)]) ac ag (fits ()) ah (λZ x0 H3 R _ s3 i3 r=> ?_) λH3 ys s3 l3 i3=> ?_
    ·refine⟨0,0,_,0,1,(sml rfl),λp hp=> ?_⟩;exact r _ _ (qh hp _) (Is.new (ds:= [Z,.int ((j+1:Nat):Int)]) ⟨x0,0,i3,_,0,1,1⟩ hp)
    ·have ly:=i3.length;rw [ua] at ly;have eA:A0≠L:=λz=>by rw [z,U] at ah;cases ah
     exists L,A0,us,ys,1,1,s3 _ _ U,l3,fits ()
     have t4:Tk H3 (upd H3 L (.lst (us++ys))):=Tk.updL (s3 _ _ U);have em:(w'++xs.map λZ=>(Z,j+1)).map pr=w'.map pr++xs.map λZ=> .tup [Z,.int ((j+1:Nat):Int)]:=by
      rw [ur,uJ];rfl
     have ef:(w'++xs.map λZ=>(Z,j+1)).map (·.1)=w'.map (·.1)++xs:=by
      rw [ur,uJ]
      congr 1
      exact GU xs
     refine ad (n+1) (w'++xs.map λZ=>(Z,j+1)) (us++ys) _ (λb o z=>by rw [qk (ql z ak)];exact s3 b o (O b o z)) qi (by rw [em];exact((af.mono s3.tk).mono t4).append (i3.mono t4)) (λh1 h2=> ?_) (λh=> ?_) ?_ ?_
     ·rw [<-hG,G_tup () h1]
     ·rw [<-hG];rcases h with h|h
      ·exact G_deep h
      ·exact G_big1 h
     ·rw [uu,ua];omega
     ·rw [ef,hm,X6];simp only [nd];omega
   ·have c':¬(vs.length:Int)<=40:=λq=>c (ub q);exists 0,_,.tup xs,1,(show Is _ (.tup xs) (.ref a0) from⟨a0,vs,1,ac,ag⟩),0
    refine iteF ?_;refine no O hG (G_bad ?_);simp only [good];rw [ud ()]
    rfl
  |str z=>
   refine iteF ?_;erw[hy,rfl,hz];exists 0,_,.str z,1,[1:hz],0;cases ht:Qx z with
   |false=>
    have e1:isTx (.str z)=false:=ht;rw [e1];refine iteF ?_;refine no O hG (G_bad ?_);simp only [good];exact ht
   |true=>
    have e1:isTx (.str z)=true:=ht;rw [e1];refine iteT ?_;exists 0,0,_,z.length,1,[hz:1],_,0,1,_,0,1;have en:(n:Int)+(1+(z.length:Int))=((n+(1+z.length):Nat):Int):=by omega
    show BB [u_ v,u_ (V.int ((n:Int)+(1+(z.length:Int)))),u_ (V.ref L),u_ x,u_ (V.str z),u_ (V.int (j:Int))] _;rw [en];refine ad (n+(1+z.length)) w' us _ O U af (λh1 h2=> ?_) (λh=> ?_) () (by rw [hm];simp only [nd];omega)
    ·rw [<-hG,G_str ht h1]
    ·rw [<-hG];rcases h with h|h
     ·exact G_deep h
     ·refine G_big ?_;simp only [sz];omega
  |_=>
   refine iteF ?_;exact⟨0,_,0,hy,0,iteF (no O hG (G_bad rfl))⟩
noncomputable def LET:Str:="abcdefghijklmnopqrstuvwxyz"
noncomputable def NSG:Str:="abcdefghijklmnopqrstuvwxyz0123456789./"
noncomputable def nm (z:Str):Bool:=decide (1<=(z.length:Int))&&decide ((z.length:Int)<=24)&&inS ⟨#[z.cps.getD 0 0]⟩ LET&&(z.cps.toList.map λc=>inS ⟨#[c]⟩ NSG).all id
noncomputable def isNm:D->Bool
 | .str z=>nm z
 |_=>UV
inductive sp_name (vs:List V) (H:Hp) (Q:VK) (E_:XK):Prop
 |mk (v:_) (d:_) (_:vs= [v]) (_:Is H d v) (_:∀H',Same H H'->Q (.bl (isNm d)) H')
theorem first_at (h:1<=z.length):atI z.cps.toList 0=u_ (z.cps.getD 0 0):=by
 have h':0<z.cps.size:=h;have q:z.cps.toList[0]? =u_ (z.cps.getD 0 0):=by simp [Array.getD,h']
 exact Ql q
theorem allMap (z:Str):(z.cps.toList.map λc=>V.bl (inS ⟨#[c]⟩ NSG))=(z.cps.toList.map λc=>inS ⟨#[c]⟩ NSG).map V.bl:=by
 rw [uJ]
 rfl
theorem nm_len (h:¬(1<=(z.length:Int)/\(z.length:Int)<=24)):nm z=false:=by
 unfold nm;by_cases h1:1<=(z.length:Int)
 ·have h2:¬(z.length:Int)<=24:=λq=>h [h1:q];rw [ud h2];simp
 ·rw [ud h1];simp
theorem nm_first (h:inS ⟨#[z.cps.getD 0 0]⟩ LET=UV):nm z=false:=by
 unfold nm;rw [h];simp
theorem nm_rest (h1:1<=(z.length:Int))(h2:(z.length:Int)<=24)(h:inS ⟨#[z.cps.getD 0 0]⟩ LET=v_):nm z=(z.cps.toList.map λc=>inS ⟨#[c]⟩ NSG).all id:=by
 unfold nm;rw [h,ub h1,ub h2];simp
theorem zp (T:Tx K mg a):#[K,1,a.f_is_name,a.d_is_name,["value"],sp_name]:=by
 exists 9,T.g_is_name,sc_is_name
 erw[h,x,d,rfl,hv,k];exists _,%[@qI _ _ _ _ _ _ _ _ #[Zm,#[Qz,#[Qq,#[qz,#[qZ,2,rfl],T.qT,uY,#v[pv 0,#[Q7,.ty "str",T.zn,Us]]]]],#[J6,#[Qz,#[pt_chain,12,op_le,op_le,qm,#[qz,zS,T.yE,uG,#v[pv 0]],#[kG,T.X8],_]]]].pt %[|#[qu,je]] qy,#[qI,#[qr,op_notIn_str,#[qQ,ix_str,pv 0,qm],#[pe_gS,4,_,T.m_LETTERS,_],#[w]],%[|#[qu,je]],qy]|#[qu,#[qz,#[ww,1,rfl],T.z_all,tV,#v[#[zw,["sign"],[],lcs0,#[pi_str,4,pv 0],(λ_ _ _ _ _ _=>#[qV,(0),(show Vi (["sign"]:oj Str) by decide+kernel)]),(λ_ _ _ _ _ _=>#[YE,op_in_str,pv 0,#[pe_gS,4,_,T.m_NAME_SIGNS,_],#[w]])]]]]]
 exists 7
 exists 0,x,"str",tyD d,isStr d,1,hv.ty,jw d,0;cases hd:isStr d with
 |false=>
  refine iteT (iteT ?_);have:=k H (Same.refl H);have e:isNm d=false:=by cases d<;>first|rfl|simp [isStr] at hd
  rwa [e] at this
 |true=>
  obtain⟨z,rfl⟩:∃z,d= .str z:=by cases d<;>simp [isStr] at hd;exact⟨0⟩
  erw[hv,rfl,U];have k:∀H',Same H H'->Q (.bl (nm z)) H':=k;refine iteF ?_;exists 0,z,1,U,_,0,1,0;have stop:nm z=UV->Q (.bl UV) H:=λe=>by
   have:=k H (Same.refl H);rwa [e] at this
  refine ite2 (λZ=> ?_) (λZ=> ?_)
  ·have aa:1<=(z.length:Int):=uj Z;exists _,0,1,0;by_cases O:(z.length:Int)<=24
   ·rw [ub O];refine iteF ?_;exists 0,_,_,0,1,U,first_at (),_,0,1,0
    cases e:inS ⟨#[z.cps.getD 0 0]⟩ LET with
    |false=>
     have e':(!(Gn ("abcdefghijklmnopqrstuvwxyz":Str) ⟨#[z.cps.getD 0 0]⟩ 0 ("abcdefghijklmnopqrstuvwxyz":Str).length 1).isEmpty)=false:=e;rw [e'];refine iteT ?_;exact stop (nm_first e)
    |true=>
     have e':(!(Gn ("abcdefghijklmnopqrstuvwxyz":Str) ⟨#[z.cps.getD 0 0]⟩ 0 ("abcdefghijklmnopqrstuvwxyz":Str).length 1).isEmpty)=true:=e;rw [e'];refine iteF ?_;refine⟨0,z,1,λD hD=> ?_⟩;refine lc_str (λc=> .bl (inS ⟨#[c]⟩ NSG)) (U) hD (λi c H' R hc sm r=>⟨0,_,0,1,r⟩) λH' sm hl=> ?_;exists D,z.cps.toList.map λc=>inS ⟨#[c]⟩ NSG,1,SqL.of (by rw [hl,allMap])
     have:=k H' sm;rwa [nm_rest aa O e] at this
   ·rw [ud O];refine iteT ?_;exact stop (nm_len λq=>O q.2)
  ·exists 0;refine iteT ?_;exact stop (nm_len λq=>Z (ub q.1))
end
noncomputable def optD:om Pt->D
 |none=> .non
 |some p=>p.d
inductive sp_part (vs:List V) (H:Hp) (Q:VK) (E_:XK):Prop
 |mk (n:Nat) (kd:Kd) (z:Str) (_:vs= [.str kd.t,.str z,.int (n:Int)]) (_:n<=40) (_:z.length<=300) (_:∀(v:V) (H':Hp),Same H H'->Is H' (optD (Yb n kd z)) v->Q v H')
inductive sp_pieces (K:PySem.W.Frag) (vs:List V) (H:Hp) (Q:VK) (E_:XK):Prop
 |mk (z:Str) (ks:List Kd) (q:Addr) (_:vs= [.str z,.ref q]) (_:z.length<=300) (_:ks.length<=3) (_:SqT K H q (ks.map λk=>V.str k.t)) (_:∀p,H p=UU->Q (.ref p) (upd H p (.lst ((pcs ks z).map V.str))))
theorem Qr {c:Bool}{A B:Prop}(h:c=UV)(b:B):if c=v_ then A else B:=by rw [A2 (by rw [h];exact u9)];exact b
theorem QG {c:Bool}{A B:Prop}(h:c=v_)(a:A):if c=v_ then A else B:=by rw [A3 h];exact a
theorem zl (ks:oj Kd):(ks.map λk=>V.str k.t)=(ks.map Kd.t).map V.str:=by rw [uJ];rfl
theorem words_in (ks:oj Kd):inV (.str "words") (ks.map λk=>V.str k.t)=decide (Kd.words∈ks):=by
 rw [zl,JB,uW,A8];constructor
 ·rintro⟨k,O,e⟩;cases k with
  |words=>exact O
  |box=>exact absurd e ()
  |line=>exact absurd e ()
 ·intro h;exact[_:h:1]
theorem form_few:∀x∈FRM,x.2.length<=3:=by decide+kernel
variable {n:Nat}
theorem kS (h:z∉BX):Yb n .box z=none:=by
 unfold Yb;exact A2 h
theorem Xt (h:z∈BX):Yb n .box z=u_ (.s z):=by
 unfold Yb;exact A3 h
theorem Wf (h:z∉(V4 n).map λi:Nat=>(V3 (1+(i:Int)):Str)):Yb n .line z=none:=by
 unfold Yb;rw [Hz,Uf];intro i hi e;exact h (A8.mpr [i:hi:uj e])
theorem J8 (h:z∈(V4 n).map λi:Nat=>(V3 (1+(i:Int)):Str)):∃j:Int,1<=j/\j<=n/\z=(Pt.n j).t/\Yb n .line z=u_ (.n j):=by
 erw[A8.mp h,i,hi,e];unfold Yb;cases O:(V4 n).find? λi:Nat=>decide ((V3 (1+(i:Int)):Str)=z) with
 |none=>exact absurd (ub e) (List.find?_eq_none.mp O i hi)
 |some j=>
  have h1:=GR O;have h2:=List.mem_range.mp (vW O);exact⟨1+(j:Int),(),(),(uj h1).symm,by show F_ _ _=_;rw [O];rfl⟩
section
variable {P:o9}{w:og}{K:o0}{mg:Str->om o6}{base:o8}{a:Ad}{g:Ga}
theorem ok_part (T:Tx K mg a)(C:Fx K w mg g a):#[K,1,a.f_part_of,a.d_part_of,["kind","piece","count"],sp_part]:=by
 exists 9,T.g_part_of,WF
 erw[h,n,kd,z,rfl,hn,hz,k];exists _,%[#[qI,#[qr,QD,pv 0,qo,qC _],%[|#[qu,pv 1]],qy],#[qI,#[qr,QD,pv 0,qo,qC _],%[|#[qu,#[yb,#[qr,QA,pv 1,#[pe_gR,C.m_BOXES],#[w]],pv 1,Qb]]],qy],#[ps_setLC,2,["number"],(1),[],(3),12,WF.nd,rfl,Ge rfl,lcs0,rfl,#[pi_range2,7,_,T.jG,#v[qm,#[qX,ya,pv 2,qm]],_,_],(λ_ _ _ _ _ _=>#[qV,(0),(show Vi (["number"]:oj Str) by decide+kernel)]),(λ_ _ _ _ _ _=> @yN _),(λ_ _ _ _ _ _=>#[qY,YY,T.zn,Us,#v[pv 0]]),_,_,_]|#[qu,#[yb,#[qr,QA,pv 1,pv 3,#[w]],#[qY,call_intS,T.z_int,boot_int,#v[pv 1]],Qb]]]
 exists 7
 exists 0,1,0;cases kd with
 |words=>
  refine QG () [0:?_]
  exact k _ H (Same.refl _) [1:yq ()]
 |box=>
  refine Qr () ⟨0,1,0,?_⟩
  refine QG () ⟨0,g.boxes,0,.inr (C.boxes _),1,wL _,0,?_⟩
  rw [A2 u9,JB];refine ite2 (λc=> ?_) (λc=> ?_)
  ·have U:z∈BX:=uj c;rw [Xt U] at k;exact[0:k _ H (Same.refl _) [1:yq ()]]
  ·have U:z∉BX:=λq=>c (ub q);rw [kS U] at k;exact k _ H (Same.refl _) rfl
 |line=>
  refine Qr () ⟨0,1,0,?_⟩
  refine Qr () ?_
  refine⟨0,_,0,1,(1),(n:Int)+1,1,⟨(),(),(),()⟩,λL hL=> ?_⟩
  rw [show((n:Int)+1-1).toNat=n by omega]
  refine JV (lo:=1) (tl:= []) (λi ys H'=>ys=(V4 i).map (λi:Nat=>V.str (V3 (1+(i:Int))))/\Same H H') (fits ()) [1:qh hL _] ?_ ?_
  ·rintro i ys H' hi ⟨rfl,sm⟩ O Z R hR;refine⟨0,0,?_,hR _ _ O [?_:?_]⟩
   ·have h1:(1+(i:Int)).natAbs<=41:=by omega
    have h2:=UR (1+(i:Int)).natAbs;omega
   ·rw [Hq,ur]
    rfl
   ·intro b o e;rw [qk (ql e hL)];exact sm b o e
  ·rintro ys H' ⟨rfl,sm⟩ O;have Z:(V4 n).map (λi:Nat=>V.str (V3 (1+(i:Int))))=((V4 n).map λi:Nat=>(V3 (1+(i:Int)):Str)).map V.str:=by rw [uJ];rfl
   refine⟨0,0,L,0,.inl (SqL.of O),1,by rw [Z];exact wL _,0,?_⟩
   rw [A2 u9,Z,JB];refine ite2 (λc=> ?_) (λc=> ?_)
   ·erw[J8 (uj c),j,j1,j2,rfl,ej];rw [ej] at k;have hj:=num_small j1 ()
    exact⟨0,_,j,1,Kq j1 (),uO hj.1 (),k _ _ sm rfl⟩
   ·rw [Wf λq=>c (ub q)] at k;exact k _ _ sm rfl
theorem ok_pieces (T:Tx K mg a):#[K,1,a.wg,a.Z0,["line","form"],(sp_pieces K)]:=by
 exists 9,T.g_pieces_of,sc_pieces_of,Z
 erw[h,z,ks,q,rfl,hz,hk,U,k];exists _,%[#[qI,#[qr,QA,qo,pv 1,#[w]],%[|#[qu,#[YR,uP,Ua,Ub,mt_splitN,pv 0,#v[qo,#[qz,qM,T.yE,uG,#v[pv 1]]]]]],qy]|#[qu,#[YR,uP,Ua,Ub,mt_split,pv 0,#v[qo]]]]
 exists 7
 refine⟨0,q,0,.inr U,1,by rw [zl];exact wL _,0,?_⟩
 rw [A2 u9,words_in];unfold pcs at k;refine ite2 (λc=> ?_) (λc=> ?_)
 ·have O:Kd.words∈ks:=uj c;rw [A3 O] at k;have h0:0<ks.length:=List.length_pos_iff.mpr λe=>by rw [e] at O;simp at O
  exact⟨0,1,0,q,0,.inr U,_,ks.length,1,by rw [ua],(),h0,(),k⟩
 ·have O:Kd.words∉ks:=λz=>c (ub z);rw [A2 O] at k;exact⟨0,1,0,1,(),k⟩
noncomputable def optR:om Rw->D
 |none=> .non
 |some r=>rowD r
noncomputable def Qk (n:Nat):D->om Rw
 | .str z=>ZL n z
 |_=>UU
inductive sp_row_of (vs:List V) (H:Hp) (Q:VK) (E_:XK):Prop
 |mk (v:V) (d:D) (n:Nat) (_:vs= [v,.int (n:Int)]) (_:Is H d v) (_:n<=40) (_:∀(v':V) (H':Hp),Same H H'->Is H' (optR (Qk n d)) v'->Q v' H')
theorem rowOfD_bad:∀{d:D},isTx d=UV->Qk n d=UU
 | .str z,h=>by
  show ZL n z=UU;unfold ZL;exact A2 (by rw [show Qx z=UV from h];exact u9)
 | .non,_=>rfl
 | .int _,_=>rfl
 | .bl _,_=>rfl
 | .lst,_=>rfl
 | .dct,_=>rfl
 | .tup _,_=>rfl
theorem txt_str:∀{d:D},isTx d=v_->∃z,d= .str z
 | .str z,_=>[z:1]
noncomputable def j8 (n:Nat)(ks:oj Kd)(zs:oj Str):oj (om Pt):=List.zipWith (Yb n) ks zs
theorem WS {n:Nat}:∀{ks:oj Kd}{zs:oj Str},(j8 n ks zs).any Gz=v_->Yi n ks zs=UU
 | [],_,h=>by simp [j8] at h
 |_::_,[],h=>by simp [j8] at h
 |k::ks,z::zs,h=>by
  rw [j8,tJ,Ul,hW] at h;unfold Yi;rcases h with h|h
  ·rw [Option.isNone_iff_eq_none.mp h]
  ·rw [WS h];split
   ·rename_i h1 h2;cases h2
   ·rfl
theorem W2 {n:Nat}:∀{ks:oj Kd}{zs:oj Str},zs.length=ks.length->(j8 n ks zs).any Gz=UV->∃ps,Yi n ks zs=u_ ps/\j8 n ks zs=ps.map u_
 | [],[],_,_=>[[]:1:1]
 | [],_::_,hl,_=>by simp at hl
 |_::_,[],hl,_=>by simp at hl
 |k::ks,z::zs,hl,h=>by
  rw [j8,tJ,Ul,HZ] at h;obtain⟨ps,O,U⟩:=W2 (ks:=ks) (zs:=zs) (by simpa using hl) h.2
  cases e:Yb n k z with
  |none=>rw [e] at h;cases h.1
  |some p=>
   refine[p::ps:?_:?_]
   ·unfold Yi;rw [e,O]
   ·rw [j8,tJ,e,uq]
    congr 1
theorem vals_o {H:Hp}:∀{os:oj (om Pt)}{vs:oj V},L2.IsL H (os.map optD) vs->vs.all Zi=v_/\inV .non vs=os.any Gz
 | [],_,h=>by cases(show _= [] from h);exact[1:1]
 |q::ps,_,h=>by
  erw[h,v,r,rfl,h1,h2];erw[vals_o h2,U,Z];have O:Zi v=v_/\eqV v .non=q.isNone:=by
   cases q with
   |none=>cases(show v= .non from h1);exact[1:1]
   |some q=>
    cases q with
    |s z=>erw[h1,rfl,_];exact[1:1]
    |n i=>cases(show v= .int i from h1);exact[1:1]
  refine[?_:?_]
  ·rw [vn,O.1,U];rfl
  ·show(eqV v .non||inV .non r)=_
   rw [O.2,Z];rfl
theorem range_map {α:Type}(l:oj α)(h:α->D)(f:Nat->D)(O:∀i q,l[i]? =u_ q->f i=h q):(V4 l.length).map f=l.map h:=by
 apply List.ext_getElem
 ·simp
 ·intro i h1 h2;simp only [ua,FK] at h1;simp only [List.getElem_map,List.getElem_range];exact O i l[i] (ug h1)
theorem ok_row_of (T:Tx K mg a)(C:Fx K w mg g a):#[K,2,a.f_row_of,a.d_row_of,["line","count"],sp_row_of]:=by
 have Z3:=#[W5,T];have Z:=#[ok_part,T,C];have O:=#[ok_pieces,T];refine T.g_row_of.F.ok JH () (λ_ _ _ _ H vs Q E hr h=> ?_)
 erw[h,v,d,n,rfl,hv,hn,k];exists _,%[#[qI,#[Qz,#[Qq,#[qt,Z3,hr.mono (),T.g_is_text,#v[pv 0]]]],%[|#[qu,Qb]],qy],#[qE,(2),JH.nd,#[qQ,qP,#[YR,uP,PySem.F.slot_str_partition,PySem.F.type_str_partition,mt_part,pv 0,#v[qo]],qm]],#[qI,#[qr,op_notK,pv 2,#[pe_gR,C.m_FORMS],#[w]],%[|#[qu,Qb]],qy],#[qE,(3),JH.nd,#[qQ,ix_K,#[pe_gR,C.m_FORMS],pv 2]],#[qE,(4),JH.nd,#[qt,O,hr.mono (),T.g_pieces_of,#v[pv 0,pv 3]]],#[qI,#[qr,op_ne,#[qz,qM,T.yE,uG,#v[pv 4]],#[qX,ya,qm,#[qz,qM,T.yE,uG,#v[pv 3]]],qC _],%[|#[qu,Qb]],qy],#[qE,(5),JH.nd,#[qY,qU,T.Qy,vf,#v[#[zw,2,["kind","piece","count"],(2),[1],9,lcsN (qj Zv) ["line","count","word","form","pieces","parts"],rfl,#[pi_zip,9,_,T.z_zip,#v[pv 3,#[Zx,10,sl_list,pv 4,#[wm,qm],kE]],_,_],(λ_ _ _ _ _ _=>#[pg_tupK,1,K,3,(2),1,rfl,rfl,yu #[qV,(0),(show Vi (["kind","piece","count"]:oj Str) by decide+kernel)] (yu #[qV,(1),(show Vi (["kind","piece","count"]:oj Str) by decide+kernel)] wk),_,_]),(λ_ _ _ _ _ _=> @yN _),(λ_ _ _ _ _ _=>#[qt,Z,hr.mono (),T.g_part_of,#v[pv 0,pv 1,pv 2]]),_]]]]|#[qu,#[yb,#[qr,QA,Qb,pv 5,#[w]],Qb,#[qG,#v[pv 2,pv 5]]]]]
 exists 7
 exists 0,v,d,1,hv,0;cases e0:isTx d with
 |false=>
  rw [rowOfD_bad e0] at k;exact QG rfl (k _ H (Same.refl _) rfl)
 |true=>
 erw[txt_str e0,z,rfl];erw[hv,rfl,aq];have ht:Qx z=true:=e0;have hz:z.length<=300:=by
  have U:=ht;unfold Qx at U;rw [uw,v9] at U;exact U.1
 have k:∀(v':V) (H':Hp),Same H H'->Is H' (optR (ZL n z)) v'->Q v' H':=k;refine Qr rfl ?_;refine⟨0,1,0,1,(),λt1 x1 x2 g1=> ?_⟩
 exists t1,_,(0),0,1,SqT.of qi,1;have s1:Same H (upd H t1 (.tup [.str (hd z),.str x1,.str x2])):=qh g1 _;generalize upd H t1 (.tup [.str (hd z),.str x1,.str x2])=H1 at s1⊢;unfold ZL at k;rw [A3 ht] at k;cases ef:J2 (hd z) with
 |none=>
  rw [ef] at k;exact⟨0,hd z,g.forms,0,1,C.kd,C.none_ _ ef,0,QG rfl (k _ _ s1 rfl)⟩
 |some ks=>
 have hk:=XY ef;rw [ef] at k;simp only at k;erw[C.forms _ hk,q,ag,aa];have hf:ks.length<=3:=form_few _ hk;exists 0,hd z,g.forms,0,1,C.kd,ag,0;refine Qr rfl ?_;exists 0,hd z,g.forms,_,.ref q,1,1,C.kd,ag,1;refine⟨0,0,z,ks,q,1,hz,hf,aa _,λp2 g2=> ?_⟩;have s2:Same H1 (upd H1 p2 (.lst ((pcs ks z).map V.str))):=qh g2 _;have e2:(upd H1 p2 (.lst ((pcs ks z).map V.str))) p2=u_ (.lst ((pcs ks z).map V.str)):=qi;generalize upd H1 p2 (.lst ((pcs ks z).map V.str))=H2 at s2 e2⊢;exists 0,p2,0,.inl (SqL.of e2),0,q,0,.inr (aa _),_,0,1,1,0;by_cases hl:(pcs ks z).length=1+ks.length
 case neg=>
  rw [A2 hl] at k;refine QG ?_ (k _ _ (s1.trans s2) rfl);rw [ua,ua];show(!decide (V.int _=V.int _))=v_;rw [ud]
  ·rfl
  ·intro q;have:((pcs ks z).length:Int)=1+(ks.length:Int):=V.int.inj q;omega
 rw [A3 hl] at k;refine Qr ?_ ?_
 ·rw [ua,ua,show((pcs ks z).length:Int)=1+(ks.length:Int) by omega]
  simp
 have ae:((pcs ks z).drop 1).length=ks.length:=by rw [vz];omega
 have ah:∀p∈(pcs ks z).drop 1,p.length<=300:=λp hp=>by
  have U:=ht;unfold Qx at U;rw [uw,v9] at U;exact(spl_ok U.1 U.2 p (tP hp)).1
 refine⟨0,0,0,p2,0,SqL.of e2,λp3 g3=> ?_⟩;have ak:cutV ((pcs ks z).map V.str) (u_ 1) UU=((pcs ks z).drop 1).map V.str:=by
  rw [show(u_ (1:Int))=u_ (((1:Nat)):Int) from rfl,ZJ (by rw [ua];omega),Fn]
 rw [ak];generalize (pcs ks z).drop 1=zs at ae ah k⊢;have s3:Same H2 (upd H2 p3 (.lst (zs.map V.str))):=qh g3 _;have e3:(upd H2 p3 (.lst (zs.map V.str))) p3=u_ (.lst (zs.map V.str)):=qi;generalize upd H2 p3 (.lst (zs.map V.str))=H3 at s3 e3⊢;have am:(j8 n ks zs).length=ks.length:=by rw [j8,List.length_zipWith];omega
 refine⟨q,p3,_,0,aa _,SqL.of e3,λA1 gA=> ?_⟩;refine lc_zip (K:=K) (tl:= [u_ (.int (n:Int))]) (xs:=ks.map λk:Kd=>V.str k.t) (ys:=zs.map V.str) (λi=>optD ((j8 n ks zs).getD i UU)) (λH' _=>aa H') (λH' sm=>SqL.of (sm _ _ e3)) (by simp [ae]) (by rw [ua];exact yq ()) gA ?_ ?_
 ·intro i x y H4 R hx hy s4 hR;rw [uF] at hx hy;cases af:ks[i]? with
  |none=>rw [af] at hx;cases hx
  |some kd=>
   rw [af] at hx;cases hx;cases ac:zs[i]? with
   |none=>rw [ac] at hy;cases hy
   |some z1=>
    rw [ac] at hy;cases hy;refine⟨0,0,0,n,kd,z1,1,hn,ah _ (v5 ac),λv H5 s5 hv=>hR v H5 s5 ?_⟩;have e:(j8 n ks zs).getD i UU=Yb n kd z1:=by simp [Vz,j8,List.getElem?_zipWith,af,ac]
    simp only [e];exact hv
 intro H5 vs s5 e5 h5;have al:L2.IsL H5 ((j8 n ks zs).map optD) vs:=by
  rw [ua,<-am] at h5;rw [range_map (j8 n ks zs) optD _ (λi q1 hi=>by simp [Vz,hi])] at h5
  exact h5
 refine⟨A1,vs,1,.inl [SqL.of e5:λt6 g6=> ?_]⟩;have s6:Same H5 (upd H5 t6 (.tup vs)):=qh g6 _;have i6:Is (upd H5 t6 (.tup vs)) (.tup ((j8 n ks zs).map optD)) (.ref t6):=Is.new al g6;have e6:(upd H5 t6 (.tup vs)) t6=u_ (.tup vs):=qi;generalize upd H5 t6 (.tup vs)=H6 at s6 i6 e6⊢;erw[vals_o al,f1,f2];have ad:=s1.trans (s2.trans (s3.trans (s5.trans s6)));exists 0,t6,vs,1,.inr (SqT.of e6),1,f1,0;rw [A2 u9,f2];refine ite2 (λc=> ?_) (λc=> ?_)
 ·rw [WS c] at k;exact k _ _ ad rfl
 ·have c':(j8 n ks zs).any Gz=false:=by
   cases h:(j8 n ks zs).any Gz with
   |false=>rfl
   |true=>exact absurd h c
  erw[W2 ae c',ps,q1,q2];rw [q1] at k;rw [q2,uJ] at i6;refine⟨0,0,(sml rfl),λt7 g7=> ?_⟩;have ao:(hd z).length<=sizeLine:=by
   have ap:∀x∈FRM,x.1.length<=100:=by decide+kernel
   have:=ap _ hk;exact yq (by simp only at this;omega)
  exact k _ _ (ad.trans (qh g7 _)) (Is.new (ds:= [.str (hd z),.tup (ps.map Pt.d)]) ⟨_,0,[1:ao],_,0,i6,1⟩ g7)
theorem part_line {M:Nat}(hn:n<=40){k:Kd}{p:Pt}(h:ptOk n M k p):Yb n k p.t=u_ p:=by
 cases k with
 |words=>
  cases p with
  |s z=>rfl
  |n i=>cases h
 |box=>
  cases p with
  |s z=>exact Xt h
  |n i=>cases h
 |line=>
  cases p with
  |s z=>cases h
  |n i=>
   have h1:1<=i/\i<=n:=h;have hm:(Pt.n i).t∈(V4 n).map λi:Nat=>(V3 (1+(i:Int)):Str):=A8.mpr ⟨(i-1).toNat,List.mem_range.mpr (),by show(V3 (1+(((i-1).toNat:Nat):Int)):Str)=V3 i;rw [show 1+(((i-1).toNat:Nat):Int)=i by omega]⟩
   erw[J8 hm,j,U,j2,Z,e];rw [e];have b1:=Kq (i:=i) h1.1 ()
   have b2:=Kq (i:=j) U ()
   have O:(V3 i:Str)=V3 j:=Z;rw [O,b2] at b1;rw [uH b1]
theorem Wy {n M:Nat}(hn:n<=40):∀{ks:oj Kd}{ps:oj Pt},xF n M ks ps->Yi n ks (ps.map Pt.t)=u_ ps
 | [],[],_=>rfl
 |k::ks,p::ps,h=>by
  rw [uq];unfold Yi;rw [part_line hn h.1,Wy hn h.2]
 | [],_::_,h=>h.elim
 |_::_,[],h=>h.elim
variable {ks:oj Kd}
theorem form_line {w:Str}(h:(w,ks)∈FRM):J2 w=u_ ks:=by
 cases e:J2 w with
 |none=>exact absurd rfl (wT e _ h)
 |some O=>
  have:=form_nd _ (XY e) _ h rfl;rw [(Prod.mk.inj this).2]
variable {r:Rw}
theorem rowOf_line {M:Nat}(hn:n<=40)(h:j3 n M r)(Z:Qx (y8 r)=v_):ZL n (y8 r)=u_ r:=by
 have hh:=line_hd h;erw[h,ks,U,O];unfold ZL;rw [A3 Z,hh,form_line U];simp only;have hs:pcs ks (y8 r)=txs r:=line_spl hn U O;have hl:=zP O;rw [hs,A3 (by unfold txs;rw [ui,ua];omega)]
 show F_ _ (Yi n ks (r.2.map Pt.t))=_;rw [Wy hn O]
 rfl
noncomputable def xV (rs:oj Rw):D:= .tup (rs.map λr=> .str (y8 r))
structure Q9 (rs:oj Rw):Prop where
 n0:1<=rs.length
 n1:rs.length<=40
 ok:∀r∈rs,j3 rs.length 300 r
 tree:isT (xV rs)=v_
theorem goodL_mem:∀{ds:oj D}{d:D},goodL ds=v_->d∈ds->good d=v_
 |x::xs,d,h,hm=>by
  simp only [goodL,uw] at h;rcases A5.mp hm with rfl|hm
  ·exact h.1
  ·exact goodL_mem h.2 hm
variable {rs:oj Rw}
theorem Q9.text (h:Q9 rs)(O:r∈rs):Qx (y8 r)=true:=by
 have h1:=h.tree;unfold isT at h1;rw [uw,uw] at h1;have h2:=h1.1.1;unfold xV at h2;simp only [good,uw] at h2;have:=goodL_mem h2.2 (A8.mpr [r:O:1])
 simpa only [good] using this
noncomputable def Q2:D->om (oj Rw)
 | .tup ds=>if(decide (1<=ds.length)&&decide (ds.length<=40)&&ds.all (λd=>(Qk ds.length d).isSome)&&isT (.tup ds))=v_ then u_ (ds.filterMap (Qk ds.length)) else UU
 |_=>UU
theorem Xh (ds:oj D):Q2 (.tup ds)=if(decide (1<=ds.length)&&decide (ds.length<=40)&&ds.all (λd=>(Qk ds.length d).isSome)&&isT (.tup ds))=v_ then u_ (ds.filterMap (Qk ds.length)) else none:=rfl
theorem rows_back {n:Nat}:∀{rs:oj Rw},(∀r∈rs,Qk n (.str (y8 r))=u_ r)->(rs.map λr=>D.str (y8 r)).filterMap (Qk n)=rs
 | [],_=>rfl
 |r::rs,h=>by
  rw [uq,vZ (h r uf),rows_back λx O=>h x (uc _ O)]
theorem Q9.rowD (h:Q9 rs)(O:r∈rs):Qk rs.length (.str (y8 r))=u_ r:=rowOf_line h.n1 (h.ok r O) (h.text O)
theorem Q9.read (h:Q9 rs):Q2 (xV rs)=u_ rs:=by
 have Z:(rs.map λr=>D.str (y8 r)).length=rs.length:=ua ..;have U:=h.tree;unfold xV at U⊢;rw [Xh,Z,A3]
 ·rw [rows_back λr O=>h.rowD O]
 ·rw [ub h.n0,ub h.n1,U,List.all_eq_true.mpr]
  ·rfl
  ·intro d hd;erw[A8.mp hd,r,O,rfl];rw [h.rowD O]
   rfl
noncomputable def RdOk (d x y:D):Prop:=(∀rs,Q2 d=u_ rs->x= .tup (rs.map L2.rowD)/\y= .non)/\(Q2 d=UU->∃i:Int,y= .int i)
inductive sp_read (vs:List V) (H:Hp) (Q:VK) (E_:XK):Prop
 |mk (v:V) (d:D) (_:vs= [v]) (_:Is H d v) (_:∀(u:V) (H':Hp) (x y:D),Same H H'->RdOk d x y->Is H' (.tup [x,y]) u->Q u H')
variable {i:Int}
theorem rd_bad {d x:D}(h:Q2 d=UU):RdOk d x (.int i):=⟨λrs e=>(by rw [h] at e;cases e),λ_=>[i:1]⟩
theorem Xr {α:Type}{o:om α}(h:o.isSome=v_):∃x,o=u_ x:=by cases o with
 |none=>cases h
 |some x=>exact[x:1]
variable {ds:oj D}
theorem rows_take {i:Nat}{d:D}(h1:ds[i]? =u_ d)(h2:Qk n d=u_ r):(ds.take (i+1)).filterMap (Qk n)=(ds.take i).filterMap (Qk n)++ [r]:=by
 rw [vq,h1,List.filterMap_append];simp [h2]
theorem rows_len {n:Nat}:∀{ds:oj D},(∀z∈ds,(Qk n z).isSome=v_)->(ds.filterMap (Qk n)).length=ds.length
 | [],_=>rfl
 |z::ds,h=>by
  erw[Xr (h z uf),r,e];rw [vZ e,ui,ui];exact congrArg (·+1) (rows_len λy O=>h y (uc _ O))
theorem ok_read (T:Tx K mg a)(C:Fx K w mg g a):#[K,3,a.Za,a.zN,["value"],sp_read]:=by
 have yz:=#[jo,T];have aa:=#[ok_row_of,T,C];refine T.g_read_lines.F.ok Yp () (λ_ _ _ _ H vs Q E hr h=> ?_)
 erw[h,v,d,rfl,hv,k];exists _,%[@qI _ _ _ _ _ _ _ _ #[Zm,#[Qz,#[Qq,#[qz,#[qZ,2,rfl],T.qT,uY,#v[pv 0,#[Q7,.ty "tuple",T.Qy,vf]]]]],#[J6,#[Qz,#[pt_chain,12,op_le,op_le,qm,#[qz,qM,T.yE,uG,#v[pv 0]],#[kG,T.m_MOST_LINES],_]]]].pt %[|#[qu,#[qG,#v[#[qG,qf],qm]]]] qy,#[qE,(1),Yp.nd,#[QK,qf]],#[jV,#[WR,pv 0],#[qV,(2),Yp.nd],%[#[qE,(3),Yp.nd,#[qt,aa,hr.mono (),T.g_row_of,#v[pv 2,#[qz,qM,T.yE,uG,#v[pv 0]]]]],#[qI,#[qr,YO,pv 3,Qb,qC _],%[|#[qu,#[qG,#v[#[qY,qU,T.Qy,vf,#v[pv 1]],#[qX,ya,#[qz,qM,T.yE,uG,#v[pv 1]],qm]]]]],qy]|#[Qa,#[YR,uK,vh,vi,Yc,pv 1,#v[pv 3]]]]]|#[qu,#[qG,#v[#[qY,qU,T.Qy,vf,#v[pv 1]],#[yb,#[Qq,#[qt,yz,hr.mono (),T.g_is_tree,#v[pv 0]]],Qb,qm]]]]]
 exists 7
 exists 0,v,"tuple",_,zd d,1,hv.ty,xU d,0;have U:Q2 d=UU->∀(t:o3),H t=UU->∀t2,(upd H t (.tup [])) t2=UU->Q (.ref t2) (upd (upd H t (.tup [])) t2 (.tup [.ref t,.int 1])):=λhn t g t2 Z=>
  k _ _ (.tup []) (.int 1) ((qh g _).trans (qh Z _)) (rd_bad hn) (Is.new (ds:= [.tup [],.int 1]) ⟨_,0,Is.new (ds:= []) rfl g,_,0,1,1⟩ Z)
 cases ht:zd d with
 |false=>
  have hn:Q2 d=none:=by
   cases d with
   |tup ds=>cases ht
   |_=>rfl
  exact iteT (iteT [(sml rfl):λt g1=>[(sml rfl):λt2 Z=>U hn t g1 t2 Z]])
 |true=>
 obtain⟨ds,rfl⟩:∃ds,d= .tup ds:=by
  cases d with
  |tup ds=>exact[ds:1]
  |_=>cases ht
 refine iteF ?_;have ad:=hv;erw[ad,va,us,rfl,ha,hu];have ae:us.length=ds.length:=hu.length;exists 0,va,us,1,.inr (SqT.of ha),_,0,1,0;have no:¬(1<=ds.length/\ds.length<=40/\(∀z∈ds,(Qk ds.length z).isSome=v_)/\isT (.tup ds)=v_)->Q2 (.tup ds)=none:=λhc=>by
  unfold Q2;refine A2 λz=>hc ?_;simp only [uw,v9,U5] at z;exact⟨z.1.1.1,z.1.1.2,z.1.2,z.2⟩
 by_cases c1:1<=ds.length
 case neg=>
  refine Qr (ud ()) [0:?_]
  exact iteT [(sml rfl):λt g1=>[(sml rfl):λt2 Z=>U (no λz=>c1 z.1) t g1 t2 Z]]
 refine QG (ub ()) ?_
 exists _,0,1,0;by_cases c2:ds.length<=40
 case neg=>
  refine QG (by rw [ud ()];rfl) ?_
  exact[(sml rfl):λt g1=>[(sml rfl):λt2 Z=>U (no λz=>c2 z.2.1) t g1 t2 Z]]
 refine Qr (by rw [ub ()];rfl) ?_
 refine[(sml rfl):λL1 g1=> ?_];exists 0,va,1,[us:SqT.of (qh g1 _ _ _ ha)]
 let J1_:Nat->L2.St->Hp->Prop:=λi σ H'=>i<=ds.length/\(∀z∈ds.take i,(Qk ds.length z).isSome=v_)/\∃(ws:oj V) (x2 x3:om V),σ= [u_ (.ref va),u_ (.ref L1),x2,x3]/\H' L1=u_ (.lst ws)/\L2.IsL H' (((ds.take i).filterMap (Qk ds.length)).map L2.rowD) ws/\Same H H'
 refine zA (K:=K) (a:=va) (xs:=us) J1_
  ⟨uU _,(λz hz=>by simp at hz),[],UU,UU,1,qi,1,qh g1 _⟩ (λi σ H' _ ⟨_,_,_,_,_,_,_,_,sm⟩=>SqT.of (sm _ _ ha)) ?_ ?_
 ·rintro i x σ H' hx ⟨ak,O,ws,x2,x3,rfl,e1,hw,sm⟩;have ac:i<ds.length:=by
   erw[Aa.mp hx,h,_];omega
  erw[hu.get (i:=i) (d:=ds[i]) (ug ac),x',af,al];rw [hx] at af;cases af;have am:ws.length=i:=by
   rw [hw.length,ua,rows_len O,vy];omega
  refine⟨0,0,va,us,1,.inr (SqT.of (sm _ _ ha)),x,ds[i],ds.length,by rw [ae];rfl,al.mono sm.tk,c2,λv H2 s2 hv=> ?_⟩
  have e2:=s2 _ _ e1;cases er:Qk ds.length ds[i] with
  |some r=>
   rw [er] at hv;have hv:Is H2 (L2.rowD r) v:=hv;have ad:=hv;erw[ad,ag,ao,rfl,_,_];exists 0,1,0;refine Qr (ud λz=>by cases z) ?_
   exists 0,.inl [1:_:SqL.of e2],0,L1,ws,0,1,e2,XM ()
   have t3:Tk H2 (upd H2 L1 (.lst (ws++ [.ref ag]))):=Tk.updL e2;refine⟨ac,λz hz=> ?_,ws++ [.ref ag],_,0,qi,?_,λb o e=> ?_⟩
   ·rw [vq,ug ac] at hz;rcases A7.mp hz with hz|hz
    ·exact O z hz
    ·have:z=ds[i]:=by simpa using hz
     rw [this,er]
     rfl
   ·rw [rows_take (ug ac) er,ur];exact((hw.mono s2.tk).mono t3).append (IsL.one (hv.mono t3))
   ·rw [qk (ql e g1)];exact s2 b o (sm b o e)
  |none=>
   rw [er] at hv;cases(show v= .non from hv)
   exists 0,1,0;refine QG rfl ?_;refine⟨0,L1,ws,1,.inl [SqL.of e2:λt1 Z=> ?_]⟩;have s3:Same H2 (upd H2 t1 (.tup ws)):=qh Z _;have i3:Is (upd H2 t1 (.tup ws)) (.tup (((ds.take i).filterMap (Qk ds.length)).map L2.rowD)) (.ref t1):=Is.new (hw.mono s2.tk) Z;refine⟨0,L1,ws,1,.inl (SqL.of (s3 _ _ e2)),_,0,1,(sml rfl),λt4 g4=> ?_⟩;exact k _ _ _ (.int _) (sm.trans (s2.trans (s3.trans (qh g4 _)))) (rd_bad (no λz=>by have:=z.2.2.1 _ (uQ ac);rw [er] at this;cases this)) (Is.new (ds:= [.tup (((ds.take i).filterMap (Qk ds.length)).map L2.rowD),.int _]) ⟨_,0,i3,_,0,1,1⟩ g4)
 ·rintro σ H' ⟨ak,O,ws,x2,x3,rfl,e1,hw,sm⟩;rw [ae,U6] at hw O;refine⟨0,L1,ws,1,.inl [SqL.of e1:λt1 Z=> ?_]⟩;have s2:Same H' (upd H' t1 (.tup ws)):=qh Z _;have i2:Is (upd H' t1 (.tup ws)) (.tup ((ds.filterMap (Qk ds.length)).map L2.rowD)) (.ref t1):=Is.new hw Z;generalize upd H' t1 (.tup ws)=H2 at s2 i2⊢;refine⟨0,_,.tup ds,1,hv.mono (sm.trans s2).tk,λH3 s3=> ?_⟩;exists 0;cases hT:isT (.tup ds) with
  |true=>
   refine QG rfl [(sml rfl):λt4 g4=> ?_];have ah:Q2 (.tup ds)=u_ (ds.filterMap (Qk ds.length)):=by
    rw [Xh,A3];rw [ub c1,ub c2,hT,List.all_eq_true.mpr O]
    rfl
   exact k _ _ _ .non (sm.trans (s2.trans (s3.trans (qh g4 _)))) ⟨λrs e=>(by rw [ah] at e;cases e;exact[1:1]),λe=>(by rw [ah] at e;cases e)⟩ (Is.new (ds:= [.tup ((ds.filterMap (Qk ds.length)).map L2.rowD),.non]) ⟨_,0,i2.mono s3.tk,_,0,1,1⟩ g4)
  |false=>
   refine Qr rfl [(sml rfl):λt4 g4=> ?_];exact k _ _ _ (.int 1) (sm.trans (s2.trans (s3.trans (qh g4 _)))) (rd_bad (no λz=>by have:=z.2.2.2;rw [hT] at this;cases this)) (Is.new (ds:= [.tup ((ds.filterMap (Qk ds.length)).map L2.rowD),.int 1]) ⟨_,0,i2.mono s3.tk,_,0,1,1⟩ g4)
inductive sp_rows (br:Addr) (vs:List V) (H:Hp) (Q:VK) (E:XK):Prop
 |mk (v:V) (d:D) (_:vs= [v]) (_:Is H d v) (_:(∀rs,Q2 d=u_ rs->∀(u:V) (H':Hp),Same H H'->Is H' (.tup (rs.map L2.rowD)) u->Q u H')) (_:(Q2 d=UU->∀(e:Addr) (H':Hp),Same H H'->E (.ref e) (u_ br) H'))
theorem ok_rows (T:Tx K mg a)(C:Fx K w mg g a):FnOk P w K mg base (CX1 P w) 4 a.wp a.Z8 ["tree"] (sp_rows g.br):=by
 have Jo:=#[ok_read,T,C];refine T.g_rule_rows.F.okX Zh () (λ_ _ _ _ H _ Q E hr h=> ?_)
 erw[h,v,d,rfl,hv,k,kB];exists _,%[#[qE,(1),Zh.nd,#[qt,Jo,hr.mono (),T.g_read_lines,#v[pv 0]]],#[qI,#[qr,op_notN,#[qQ,qP,pv 1,qm],Qb,qC _],%[|#[ps_raise,22,C.x_BadRule,_,C.m_BadRule,qo,_,_]],qy]|#[qu,#[qQ,qP,pv 1,qm]]]
 exists 7
 refine⟨0,v,d,1,hv,λu H1 x y s1 hd U=> ?_⟩;exists 0;dsimp only [tC];refine xS (i:=1) (d:=y) U rfl λz Z=> ?_;cases O:Q2 d with
 |none=>
  erw[hd.2 O,i,rfl];cases(show z= .int i from Z)
  exists 1,0;refine QG (by rw [ud (λz=>by cases z)];rfl) ?_
  exact[1:λe=>kB O e H1 s1]
 |some rs=>
  erw[hd.1 rs O,rfl,rfl];cases(show z= .non from Z)
  exists 1,0;refine Qr rfl ?_;exists 0;dsimp only [tC];refine xS (i:=0) (d:= .tup (rs.map L2.rowD)) U rfl λq hq=> ?_;exact k rs O q H1 s1 hq
noncomputable def kvB (f:Str->V):oj (Key×V):=BX.map λz=>(UZ z,f z)
theorem val_B {f:Str->V}:∀{zs:oj Str}{z:Str},z∈zs->valV (zs.map λz=>((UZ z:Key),f z)) (UZ z)=u_ (f z)
 |y::ys,z,h=>by
  rw [uq];by_cases e:y=z
  ·subst e;exact QL rfl
  ·have h':z∈ys:=by
    rcases A5.mp h with rfl|h
    ·exact absurd rfl e
    ·exact h
   have:=val_B (f:=f) h';unfold valV at this⊢;rw [uS];have O:decide ((UZ y:Key)=UZ z)=false:=ud λq=>e (Ug q);simp only [O];exact this
theorem put_B {f:Str->V}{u:V}(h:z∈BX):putK (kvB f) (UZ z) u=kvB λy=>if y=z then u else f y:=by
 unfold putK;rw [A3]
 ·unfold kvB;rw [uJ];refine U3 λy _=> ?_;by_cases e:y=z
  ·simp [e]
  ·simp [e]
 ·rw [Fv];exact⟨(UZ z,f z),A8.mpr [z:h:1],by simp⟩
noncomputable def Yq (H:Hp)(d:o3)(B:Str->D):Prop:=∃f:Str->V,H d=u_ (.dK (kvB f))/\∀z∈BX,Is H (B z) (f z)
noncomputable def setB (B:Str->D)(z:Str)(e:D):Str->D:=λy=>if y=z then e else B y
variable {H H':Hp}
theorem Yq.same {d:o3}{B:Str->D}(h:Yq H d B)(s:Same H H'):Yq H' d B:=let⟨f,e,i⟩:=h;[f:s _ _ e:λz O=>(i z O).mono s.tk]
theorem Yq.move {d:o3}{B:Str->D}(h:Yq H d B)(t:Tk H H')(e:H' d=H d):Yq H' d B:=let⟨f,e1,i⟩:=h;[f:e.trans e1:λz O=>(i z O).mono t]
theorem Yq.get {d:o3}{B:Str->D}(h:Yq H d B)(O:z∈BX):∃v,DGet H d (.str z) (u_ v)/\Is H (B z) v:=by
 erw[h,f,e,i];refine[f z:?_:i z O];have:=DGet.k (k:=(UZ z:Key)) e;rw [show valV (kvB f) (UZ z)=u_ (f z) from val_B O] at this
 exact this
variable {e:D}
theorem Yq.put {d:o3}{B:Str->D}{u:V}(h:Yq H d B)(U:z∈BX)(Z:Is H e u):∃kvs,DPut H d (.str z) u (upd H d (.dK kvs))/\Yq (upd H d (.dK kvs)) d (setB B z e)/\Tk H (upd H d (.dK kvs)):=by
 erw[h,f,O,i];refine⟨kvB λy=>if y=z then u else f y,.inl ⟨_,UZ z,O,1,by show BX.length<UY;rw [uA];decide,by rw [put_B U]⟩,[_:qi:λy hy=> ?_],Tk.updD O⟩
 have t:Tk H (upd H d (.dK (kvB λy=>if y=z then u else f y))):=Tk.updD O
 unfold setB;by_cases c:y=z
 ·rw [A3 c,A3 c];exact Z.mono t
 ·rw [A2 c,A2 c];exact(i y hy).mono t
noncomputable def J9:oj D->Bool
 | []=>v_
 | .str _::r=>J9 r
 |_=>UV
noncomputable def xh:oj D->oj Str
 | .str z::r=>z::xh r
 |_=> []
noncomputable def b0 (ps:oj Pt):Str:=(ps.getD 0 (.s "")).t
noncomputable def b1 (ps:oj Pt):Str:=(ps.getD 1 (.s "")).t
noncomputable def b2 (ps:oj Pt):Str:=(ps.getD 2 (.s "")).t
noncomputable def firstD:D->D
 | .str z=>if z.length=0 then .non else .str ⟨#[z.cps.getD 0 0]⟩
 | .tup (x::_)=>x
 |_=> .non
noncomputable def restD:D->D
 | .str z=>if z.length=0 then .non else .str (GN z (u_ 1) UU)
 | .tup (_::r)=> .tup r
 |_=> .non
noncomputable def lenD:D->Nat
 | .str z=>z.length
 | .tup xs=>xs.length
 |_=>0
noncomputable def putD:D->D->D
 | .tup xs,e=> .tup (xs++ [e])
 |_,_=> .non
noncomputable def joinD:D->D->D
 | .str x,.str y=> .str (x++y)
 |_,_=> .non
noncomputable def cutD:D->D->D
 | .str z,.str y=>if y.length=0 then .non else .tup ((spG z y).map .str)
 |_,_=> .non
noncomputable def glueD:D->D->D
 | .tup xs,.str y=>if J9 xs=v_ then .str (V2 y (xh xs)) else .non
 |_,_=> .non
noncomputable def made (w:Str)(B:Str->D)(own:Str)(ps:oj Pt):D:=
 if w="text" then .str (b1 ps) else if w="self" then .str own else if w="copy" then B (b1 ps) else if w="row" then .tup [] else
 if w="put" then putD (B (b0 ps)) (B (b1 ps)) else if w="join" then joinD (B (b0 ps)) (B (b1 ps)) else if w="first" then firstD (B (b1 ps)) else if w="rest" then restD (B (b1 ps)) else
 if w="size" then .str (V3 ((lenD (B (b1 ps)):Nat):Int)) else if w="cut" then cutD (B (b1 ps)) (B (b2 ps)) else glueD (B (b1 ps)) (B (b2 ps))
variable {ps:oj Pt}
theorem QR {m:Nat}{w:Str}(h:j3 n m (w,ps))(O:(w,ks)∈FRM):xF n m ks ps:=by
 erw[h,U,h1,h2];have:=form_nd _ h1 _ O rfl;cases this;exact h2
theorem sh_b {m:Nat}(h:xF n m [.box] ps):∃x,ps= [.s x]/\x∈BX:=by
 match ps,h with
 | [.s x],h=>exact[x:1:h.1]
 | [.n _],h=>exact h.1.elim
theorem wJ {m:Nat}(h:xF n m [.box,.box] ps):∃x y,ps= [.s x,.s y]/\x∈BX/\y∈BX:=by
 match ps,h with
 | [.s x,.s y],h=>exact⟨x,y,1,h.1,h.2.1⟩
 | [.n _,_],h=>exact h.1.elim
 | [.s _,.n _],h=>exact h.2.1.elim
theorem sh_bbb {m:Nat}(h:xF n m [.box,.box,.box] ps):∃x y z,ps= [.s x,.s y,.s z]/\x∈BX/\y∈BX/\z∈BX:=by
 match ps,h with
 | [.s x,.s y,.s z],h=>exact⟨x,y,z,1,h.1,h.2.1,h.2.2.1⟩
 | [.n _,_,_],h=>exact h.1.elim
 | [.s _,.n _,_],h=>exact h.2.1.elim
 | [.s _,.s _,.n _],h=>exact h.2.2.1.elim
theorem sh_bw {m:Nat}(h:xF n m [.box,.words] ps):∃x y,ps= [.s x,.s y]/\x∈BX/\y.length<=m/\y.cps.toList.all QE=true:=by
 match ps,h with
 | [.s x,.s y],h=>exact⟨x,y,1,h.1,h.2.1⟩
 | [.n _,_],h=>exact h.1.elim
 | [.s _,.n _],h=>exact h.2.1.elim
theorem sh_bl {m:Nat}(h:xF n m [.box,.line] ps):∃x,∃i:Int,ps= [.s x,.n i]/\x∈BX/\1<=i/\i<=n:=by
 match ps,h with
 | [.s x,.n i],h=>exact⟨x,i,1,h.1,h.2.1⟩
 | [.n _,_],h=>exact h.1.elim
 | [.s _,.s _],h=>exact h.2.1.elim
theorem sh_bbl {m:Nat}(h:xF n m [.box,.box,.line] ps):∃x y,∃i:Int,ps= [.s x,.s y,.n i]/\x∈BX/\y∈BX/\1<=i/\i<=n:=by
 match ps,h with
 | [.s x,.s y,.n i],h=>exact⟨x,y,i,1,h.1,h.2.1,h.2.2.1⟩
 | [.n _,_,_],h=>exact h.1.elim
 | [.s _,.n _,_],h=>exact h.2.1.elim
 | [.s _,.s _,.s _],h=>exact h.2.2.1.elim
noncomputable def PtsAt (H:Hp)(t:o3)(ps:oj Pt):Prop:=Is H (.tup (ps.map Pt.d)) (.ref t)
noncomputable def Tr (B:Str->D):Prop:=∀z∈BX,isT (B z)=v_
inductive Xi (w:Str) (vs:List V) (H:Hp) (Q:VK) (E_:XK):Prop
 |mk (d t:Addr) (own:Str) (B:Str->D) (ps:List Pt) (n:Nat) (_:vs= [.ref d,.str own,.ref t]) (_:Yq H d B) (_:Tr B) (_:own.length<=100) (_:j3 n 300 (w,ps)) (_:PtsAt H t ps) (_:∀(v:V) (H':Hp),Same H H'->Is H' (made w B own ps) v->Q v H')
variable {Q:VK}
theorem box_at {K:o0}{t:o3}{i:Nat}(h:PtsAt H t ps)(e:ps[i]? =u_ (.s z))(q:Q (.str z) H):rIxT K (.ref t) (.int (i:Int)) H Q:=
 xS (d:= .str z) h (Ql (by rw [uF,e];rfl)) λx O=>by erw[O,rfl,_];exact q
theorem Jn {d:D}(h:isT d=v_):dp d<=12:=by
 unfold isT at h;rw [uw] at h;exact uj h.2
theorem isT_sz {d:D}(h:isT d=v_):sz d<=600:=by
 unfold isT at h;rw [uw,uw] at h;exact uj h.1.2
theorem YI {d:D}(h:isT d=v_):lenD d<=600:=by
 have h1:=isT_sz h;cases d with
 |str z=>simp only [sz] at h1;show z.length<=600;omega
 |tup xs=>
  unfold isT at h;rw [uw,uw] at h;have h2:=h.1.1;simp only [good,uw] at h2;have:=uj h2.1;show xs.length<=600;omega
 |_=>exact uU _
theorem app_len (z y:Str):(z++y:Str).length=z.length+y.length:=by
 show(z.cps++y.cps).size=z.cps.size+y.cps.size;exact tI
theorem bget {K:o0}{t d:o3}{B:Str->D}{i:Nat}(O:Yq H d B)(h:PtsAt H t ps)(e:ps[i]? =u_ (.s z))(U:z∈BX)(q:∀v,Is H (B z) v->Q v H):rIxT K (.ref t) (.int (i:Int)) H (λy H2=>ItDGet Q (.ref d) y H2):=by
 erw[O.get U,v,Z,iv];exact box_at h e ⟨d,v,1,Z,q v iv⟩
theorem ok_text (T:Tx K mg a):#[K,1,a.xv,a.wG,["boxes","own","parts"],(Xi "text")]:=by
 exists 9,T.g_text_made,sc_text_made,Z
 erw[h,d,t,own,B,ps,n,rfl,hB,hT,ho,O,U,k];exists _,%[|#[qu,#[qQ,qP,pv 2,qm]]]
 exists 7
 erw[sh_bw (QR O ()),x,y,rfl,hx,hy,hs]
 exact⟨0,box_at (i:=1) U rfl (k _ H (Same.refl _) ⟨1,yq (by show y.length<=1000;omega)⟩)⟩
theorem ok_self (T:Tx K mg a):#[K,1,a.xY,a.ZO,["boxes","own","parts"],(Xi "self")]:=by
 exists 9,T.g_self_made,sc_self_made,U
 erw[h,d,t,own,B,ps,n,rfl,Z,hT,ho,O,hp,k];exists _,%[|#[qu,pv 1]]
 exists 7
 exact⟨0,k _ H (Same.refl _) ⟨1,yq (by show own.length<=1000;omega)⟩⟩
theorem ok_row (T:Tx K mg a):#[K,1,a.X4,a.W0,["boxes","own","parts"],(Xi "row")]:=by
 exists 9,T.g_row_made,sc_row_made,Z
 erw[h,d,t,own,B,ps,n,rfl,hB,hT,ho,U,hp,k];exists _,%[|#[qu,#[qG,qf]]]
 exists 7
 exact[(sml rfl):λl O=>k _ _ (qh O _) (Is.new (ds:= []) rfl O)]
theorem ok_copy (T:Tx K mg a):#[K,1,a.xH,a.ZR,["boxes","own","parts"],(Xi "copy")]:=by
 exists 9,T.g_copy_made,sc_copy_made,U
 erw[h,d,t,own,B,ps,n,rfl,Z,hT,ho,O,hp,k];exists _,%[|#[qu,#[QJ,6,Q5 U,pv 0,#[qQ,qP,pv 2,qm],(λ_ _=>rfl)]]]
 exists 7
 erw[wJ (QR O ()),x,y,rfl,hx,hy]
 exists 0,0;exact bget (i:=1) Z hp rfl hy λv iv=>k _ H (Same.refl _) iv
theorem ok_put (T:Tx K mg a):#[K,1,a.zu,a.W4,["boxes","own","parts"],(Xi "put")]:=by
 exists 9,T.g_put_made,wD
 erw[h,d,t,own,B,ps,n,rfl,hB,hT,ho,aa,O,k];exists _,%[#[qE,(3),wD.nd,#[QJ,pv 0,#[qQ,qP,pv 2,qm]]],#[qI,#[Qz,#[Qq,#[qz,#[qZ,2,rfl],T.qT,uY,#v[pv 3,#[Q7,.ty "tuple",T.Qy,vf]]]]],%[|#[qu,Qb]],qy]|#[qu,#[qX,kC,pv 3,#[qG,#v[#[QJ,pv 0,#[qQ,qP,pv 2,qm]]]]]]]
 exists 7
 erw[wJ (QR aa ()),x,y,rfl,hx,hy]
 exists 0,0;refine bget (i:=0) hB O rfl hx λv iv=> ?_;exists 0,v,"tuple",tyD (B x),zd (B x),1,iv.ty,xU _,0;have U:=YI (hT x hx);have k':∀(v:V) (H':Hp),Same H H'->Is H' (putD (B x) (B y)) v->Q v H':=k;generalize B x=dx at iv k' U⊢;cases dx with
 |tup xs=>
  refine iteF ?_;erw[iv,r,rs,rfl,er,ir];exists 0,0,0;refine bget (i:=1) hB O rfl hy λu iu=> ?_;refine⟨(sml rfl),λl Z=>⟨r,l,rs,[u],1,1,SqT.of (qh Z _ _ _ er),SqT.of qi,?_,λe=> ?_,λ_ e=>(by cases e),λ_ _ p O=> ?_⟩⟩
  ·rw [ir.length];have:xs.length<=600:=U;exact yq (by show xs.length+1<=1000;omega)
  ·subst e;have e2:xs= []:=U4 ir.length.symm;subst e2;exact k' _ _ (qh Z _) (Is.new (ds:= [B y]) (IsL.one iu) Z)
  ·have t1:Tk H (upd H l (.tup [u])):=(qh Z _).tk;exact k' _ _ ((qh Z _).trans (qh O _)) (Is.new (ds:=xs++ [B y]) ((ir.mono t1).append (IsL.one (iu.mono t1))) O)
 |_=>exact iteT (k' _ H (Same.refl _) rfl)
theorem ok_join (T:Tx K mg a):#[K,1,a.xr,a.wl,["boxes","own","parts"],(Xi "join")]:=by
 exists 9,T.g_join_made,Jx
 erw[h,d,t,own,B,ps,n,rfl,hB,hT,ho,aa,hp,k];exists _,%[#[qE,(3),Jx.nd,#[QJ,pv 0,#[qQ,qP,pv 2,qm]]],#[qE,(4),Jx.nd,#[QJ,pv 0,#[qQ,qP,pv 2,qm]]],@qI _ _ _ _ _ _ _ _ #[Zm,#[Qz,#[Qq,#[qz,#[qZ,2,rfl],T.qT,uY,#v[pv 3,#[Q7,.ty "str",T.zn,Us]]]]],#[J6,#[Qz,#[Qq,#[qz,#[qZ,2,rfl],T.qT,uY,#v[pv 4,#[Q7,.ty "str",T.zn,Us]]]]]]].pt %[|#[qu,Qb]] qy|#[qu,#[qX,Qh,pv 3,pv 4]]]
 exists 7
 erw[wJ (QR aa ()),x,y,rfl,hx,hy]
 exists 0,0;refine bget (i:=0) hB hp rfl hx λv iv=> ?_;exists 0,0;refine bget (i:=1) hB hp rfl hy λu iu=> ?_;have lx:=YI (hT x hx);have ly:=YI (hT y hy);have O:∀(v:V) (H':Hp),Same H H'->Is H' (joinD (B x) (B y)) v->Q v H':=k;generalize B x=dx at iv O lx⊢;generalize B y=U at iu O ly⊢;exists 0,v,"str",tyD dx,isStr dx,1,iv.ty,jw _,0;cases dx with
 |str z=>
  refine iteF ⟨0,u,"str",tyD U,isStr U,1,iu.ty,jw _,0,?_⟩;cases U with
  |str Z=>
   refine iteF ?_;erw[iv,rfl,_];erw[iu,rfl,_];have h1:z.length<=600:=lx;have h2:Z.length<=600:=ly;exact⟨0,0,_,0,1,fits (),O _ H (Same.refl _) ⟨1,by rw [show(z++Z).length=z.length+Z.length from app_len z Z];exact fits ()⟩⟩
  |_=>exact iteT (O _ H (Same.refl _) rfl)
 |_=>exact iteT (O _ H (Same.refl _) (by cases U<;>rfl))
theorem ok_first (T:Tx K mg a):#[K,1,a.JK,a.zO,["boxes","own","parts"],(Xi "first")]:=by
 exists 9,T.g_first_made,XF
 erw[h,d,t,own,B,ps,n,rfl,hB,hT,ho,Z,hp,k];exists _,%[#[qE,(3),XF.nd,#[QJ,pv 0,#[qQ,qP,pv 2,qm]]]|#[qu,#[yb,#[qr,kz,#[qz,Ju,T.yE,uG,#v[pv 3]],qm,qC _],#[qQ,Xq,pv 3,qm],Qb]]]
 exists 7
 erw[wJ (QR Z ()),x,y,rfl,hx,hy]
 exists 0,0;refine bget (i:=1) hB hp rfl hy λv U=> ?_;have ly:=YI (hT y hy);have hg:=hT y hy;have O:∀(v:V) (H':Hp),Same H H'->Is H' (firstD (B y)) v->Q v H':=k;generalize B y=dy at U O ly hg⊢;cases dy with
 |str z=>
  erw[U,rfl,hz];refine[0:.inl ⟨z,1,hz,_,0,1,0,?_⟩];refine ite2 (λc=> ?_) (λc=> ?_)
  ·have h0:1<=z.length:=by have:=uj c;omega
   have k2:Is H (firstD (.str z)) (.str ⟨#[z.cps.getD 0 0]⟩):=by
    show Is H (if z.length=0 then D.non else _) _
    rw [A2 ()]
    exact⟨1,yq (by show 1<=1000;decide)⟩
   exact[0:.inr (.inr ⟨z,(0),0,1,hz,first_at h0,O _ H (Same.refl _) k2⟩)]
  ·have h0:z.length=0:=by
    rcases rY z.length with e|e
    ·exact e
    ·exact absurd (ub ()) c
   exact O _ H (Same.refl _) (by show Is H (if z.length=0 then D.non else _) _;rw [A3 h0];rfl)
 |tup xs=>
  have aa:=U;erw[aa,r,rs,rfl,er,ir];refine[0:.inr ⟨r,rs,1,.inr (SqT.of er),λ_=>⟨_,0,1,0,?_⟩⟩];have hl:=ir.length;cases xs with
  |nil=>exact Qr (ud (by rw [hl];decide)) (O _ H (Same.refl _) rfl)
  |cons e es=>
   refine QG (ub (by rw [hl,ui];omega)) ?_
   exact[0:.inr (.inl (xS (i:=0) (d:=e) U (Ql (j:=0) rfl) λq hq=>O _ H (Same.refl _) hq))]
 |_=>simp [isT,good] at hg
theorem WP:∀xs:oj D,J9 xs=xs.all isStr
 | []=>rfl
 | .str _::r=>by show J9 r=_;rw [WP r];rfl
 | .non::_| .bl _::_| .int _::_| .lst::_| .dct::_| .tup _::_=>rfl
theorem strs_map:∀{xs:oj D},J9 xs=v_->xs=(xh xs).map D.str
 | [],_=>rfl
 | .str z::r,h=>by
  show D.str z::r=D.str z::(xh r).map D.str;rw [<-strs_map (show J9 r=v_ from h)]
theorem IsL.strs {H:Hp}:∀{l:oj Str}{vs:oj V},L2.IsL H (l.map D.str) vs->vs=l.map V.str
 | [],_,h=>h
 |_::_,_,h=>by
  erw[h,v,r,rfl,h1,h2];rw [IsL.strs h2,h1.1];rfl
theorem IsL.ofStrs {H:Hp}:∀{l:oj Str},(∀z∈l,z.length<=UY)->L2.IsL H (l.map D.str) (l.map V.str)
 | [],_=>rfl
 |z::l,h=>⟨_,0,[1:h z uf],IsL.ofStrs λy O=>h y (uc _ O)⟩
theorem sum_lens:∀(l:oj Str),(l.map (·.length)).sum+l.length=szL (l.map D.str)
 | []=>rfl
 |z::l=>by
  have:=sum_lens l;simp only [uq,Um,ui,szL,sz];omega
theorem join_le (sep:Str):∀(l:oj Str),(V2 sep l).length<=(l.map (·.length)).sum+l.length*sep.length
 | []=>uU _
 | [x]=>by simp [V2]
 |x::y::r=>by
  have O:=join_le sep (y::r);have e:(V2 sep (x::y::r)).length=x.length+sep.length+(V2 sep (y::r)).length:=by
   show((x.cps++sep.cps)++(V2 sep (y::r)).cps).size=_;rw [tI,tI]
   rfl
  rw [e,uq,Um,ui,Nat.succ_mul];omega
theorem ok_rest (T:Tx K mg a):#[K,1,a.xm,a.Z9,["boxes","own","parts"],(Xi "rest")]:=by
 exists 9,T.g_rest_made,zE
 erw[h,d,t,own,B,ps,n,rfl,hB,hT,ho,Z,U,k];exists _,%[#[qE,(3),zE.nd,#[QJ,pv 0,#[qQ,qP,pv 2,qm]]]|#[qu,#[yb,#[qr,kz,#[qz,Ju,T.yE,uG,#v[pv 3]],qm,qC _],#[Zx,10,sl_any,pv 3,#[wm,qm],kE],Qb]]]
 exists 7
 erw[wJ (QR Z ()),x,y,rfl,hx,hy]
 exists 0,0;refine bget (i:=1) hB U rfl hy λv iv=> ?_;have ly:=YI (hT y hy);have hg:=hT y hy;have O:∀(v:V) (H':Hp),Same H H'->Is H' (restD (B y)) v->Q v H':=k;generalize B y=dy at iv O ly hg⊢;cases dy with
 |str z=>
  erw[iv,rfl,hz];refine[0:.inl ⟨z,1,hz,_,0,1,0,?_⟩];refine ite2 (λc=> ?_) (λc=> ?_)
  ·have h0:1<=z.length:=by have:=uj c;omega
   have k2:Is H (restD (.str z)) (.str (GN z (u_ 1) UU)):=by
    show Is H (if z.length=0 then D.non else _) _
    rw [A2 ()]
    exact[1:uO (TQ z _ _) hz]
   exact[0:0:.inl ⟨z,1,hz,O _ H (Same.refl _) k2⟩]
  ·have h0:z.length=0:=by
    rcases rY z.length with e|e
    ·exact e
    ·exact absurd (ub ()) c
   exact O _ H (Same.refl _) (by show Is H (if z.length=0 then D.non else _) _;rw [A3 h0];rfl)
 |tup xs=>
  have aa:=iv;erw[aa,r,rs,rfl,er,ir];refine[0:.inr ⟨r,rs,1,.inr (SqT.of er),λ_=>⟨_,0,1,0,?_⟩⟩];have hl:=ir.length;cases xs with
  |nil=>exact Qr (ud (by rw [hl];decide)) (O _ H (Same.refl _) rfl)
  |cons e es=>
   refine QG (ub (by rw [hl,ui];omega)) ?_
   erw[ir,v0,r0,rfl,i0,i1];refine[0:0:.inr ⟨r,v0::r0,1,SqT.of er,λh=> ?_,λ_ p U=> ?_⟩]
   ·exfalso;have:=h.1;simp [HT.sIx] at this
   ·have e1:cutV (v0::r0) (u_ 1) UU=r0:=by
     rw [show(u_ (1:Int))=u_ (((1:Nat)):Int) from rfl,ZJ (by simp)]
     rfl
    rw [e1];exact O _ _ (qh U _) (Is.new i1 U)
 |_=>simp [isT,good] at hg
theorem ok_size (T:Tx K mg a):#[K,1,a.xL,a.Zz,["boxes","own","parts"],(Xi "size")]:=by
 exists 9,T.g_size_made,sc_size_made
 erw[h,d,t,own,B,ps,n,rfl,hB,hT,ho,O,hp,k];exists _,%[|#[qu,#[qY,YY,T.zn,Us,#v[#[qz,Ju,T.yE,uG,#v[#[QJ,pv 0,#[qQ,qP,pv 2,qm]]]]]]]]
 exists 7
 erw[wJ (QR O ()),x,y,rfl,hx,U]
 exists 0,0;refine bget (i:=1) hB hp rfl U λv Z=> ?_;have ly:=YI (hT y U);have hg:=hT y U;have k':∀(v:V) (H':Hp),Same H H'->Is H' (.str (V3 ((lenD (B y):Nat):Int))) v->Q v H':=k;generalize B y=dy at Z k' ly hg⊢;have sm:∀n:Nat,n<=600->((n:Int)).natAbs.log2<1920/\((V3 (n:Int):Str)).length<=sizeLine:=by
  intro n hn;have h2:=UR ((n:Int)).natAbs;exact[():int_text_fits ()]
 cases dy with
 |str z=>
  erw[Z,rfl,hz];have h2:=sm z.length ly;exact .inl ⟨z,1,hz,0,h2.1,k' _ H (Same.refl _) [1:h2.2]⟩
 |tup xs=>
  have aa:=Z;erw[aa,r,rs,rfl,er,ir];have h2:=sm xs.length ly;refine .inr ⟨r,rs,1,.inr (SqT.of er),λ_=>[0:?_:?_]⟩
  ·rw [ir.length];exact h2.1
  ·rw [ir.length];exact k' _ H (Same.refl _) [1:h2.2]
 |_=>simp [isT,good] at hg
theorem ok_cut (T:Tx K mg a):#[K,1,a.XW,a.WY,["boxes","own","parts"],(Xi "cut")]:=by
 exists 9,T.g_cut_made,xM
 erw[h,d,t,own,B,ps,n,rfl,hB,hT,ho,aa,Z,k];exists _,%[#[qE,(3),xM.nd,#[QJ,pv 0,#[qQ,qP,pv 2,qm]]],#[qE,(4),xM.nd,#[QJ,pv 0,#[qQ,qP,pv 2,qm]]],@qI _ _ _ _ _ _ _ _ #[Zm,#[Qz,#[Qq,#[qz,#[qZ,2,rfl],T.qT,uY,#v[pv 3,#[Q7,.ty "str",T.zn,Us]]]]],#[Zm,#[Qz,#[Qq,#[qz,#[qZ,2,rfl],T.qT,uY,#v[pv 4,#[Q7,.ty "str",T.zn,Us]]]]],#[J6,#[qr,QD,pv 4,qo,qC _]]]].pt %[|#[qu,Qb]] qy|#[qu,#[qY,qU,T.Qy,vf,#v[#[YR,uP,Ua,Ub,mt_splitG,pv 3,#v[pv 4]]]]]]
 exists 7
 erw[sh_bbb (QR aa ()),x0,x,y,rfl,ac,hx,hy]
 exists 0,0;refine bget (i:=1) hB Z rfl hx λv iv=> ?_;exists 0,0;refine bget (i:=2) hB Z rfl hy λu iu=> ?_;have lx:=YI (hT x hx);have ly:=YI (hT y hy);have U:∀(v:V) (H':Hp),Same H H'->Is H' (cutD (B x) (B y)) v->Q v H':=k;generalize B x=dx at iv U lx⊢;generalize B y=dy at iu U ly⊢;exists 0,v,"str",tyD dx,isStr dx,1,iv.ty,jw _,0;cases dx with
 |str z=>
  refine iteF ⟨0,u,"str",tyD dy,isStr dy,1,iu.ty,jw _,0,?_⟩;cases dy with
  |str O=>
   refine iteF ?_;erw[iv,rfl,_];erw[iu,rfl,_];have h1:z.length<=600:=lx;have h2:O.length<=600:=ly;exists 0,1,0;refine ite2 (λc=> ?_) (λc=> ?_)
   ·have e:O="":=by have:=uj c;injection this
    subst e;exact U _ H (Same.refl _) rfl
   ·have h3:O.length≠0:=λh=>c (ub (by
     have:O="":=by
      have h4:O.cps= #[]:=Array.eq_empty_of_size_eq_zero h;cases O;simp only at h4;subst h4
      decide+kernel
     rw [this]))
    refine⟨0,1,0,z,O,1,1,(),(),λp Z=>[p:0:.inl [SqL.of qi:λl hl=> ?_]]⟩
    have s1:Same H (upd H p (.lst ((spG z O).map V.str))):=qh Z _;refine U _ _ (s1.trans (qh hl _)) ?_;show Is _ (if O.length=0 then D.non else .tup ((spG z O).map D.str)) _
    rw [A2 h3];exact Is.new (IsL.ofStrs λq hq=>yq (by have:=spG_mem hq;omega)) hl
  |_=>exact iteT (U _ H (Same.refl _) rfl)
 |_=>exact iteT (U _ H (Same.refl _) (by cases dy<;>rfl))
theorem ok_glue (T:Tx K mg a):#[K,1,a.xt,a.wZ,["boxes","own","parts"],(Xi "glue")]:=by
 exists 9,T.g_glue_made,JG
 erw[h,d,t,own,B,ps,n,rfl,hB,hT,ho,ae,hp,k];exists _,%[#[qE,(3),JG.nd,#[QJ,pv 0,#[qQ,qP,pv 2,qm]]],#[qE,(4),JG.nd,#[QJ,pv 0,#[qQ,qP,pv 2,qm]]],@qI _ _ _ _ _ _ _ _ #[Zm,#[Qz,#[Qq,#[qz,#[qZ,2,rfl],T.qT,uY,#v[pv 3,#[Q7,.ty "tuple",T.Qy,vf]]]]],#[J6,#[Qz,#[Qq,#[qz,#[qZ,2,rfl],T.qT,uY,#v[pv 4,#[Q7,.ty "str",T.zn,Us]]]]]]].pt %[|#[qu,Qb]] qy,#[qI,#[Qz,#[Qq,#[qz,#[ww,1,rfl],T.z_all,tV,#v[#[zw,["part"],[],lcs0,#[Kg,4,pv 3],(λ_ _ _ _ _ _=>#[qV,(0),(show Vi (["part"]:oj Str) by decide+kernel)]),(λ_ _ _ _ _ _=>#[qz,#[qZ,2,rfl],T.qT,uY,#v[pv 0,#[Q7,.ty "str",T.zn,Us]]])]]]]],%[|#[qu,Qb]],qy]|#[qu,#[YR,uP,vU,vV,mt_joinT,pv 4,#v[pv 3]]]]
 exists 7
 erw[sh_bbb (QR ae ()),x0,x,y,rfl,ah,hx,hy]
 exists 0,0;refine bget (i:=1) hB hp rfl hx λv iv=> ?_;exists 0,0;refine bget (i:=2) hB hp rfl hy λu iu=> ?_;have lx:=YI (hT x hx);have hg:=hT x hx;have ly:=YI (hT y hy);have U:∀(v:V) (H':Hp),Same H H'->Is H' (glueD (B x) (B y)) v->Q v H':=k;generalize B x=dx at iv U lx hg⊢;generalize B y=dy at iu U ly⊢;exists 0,v,"tuple",tyD dx,zd dx,1,iv.ty,xU _,0;cases dx with
 |tup xs=>
  refine iteF ⟨0,u,"str",tyD dy,isStr dy,1,iu.ty,jw _,0,?_⟩;cases dy with
  |str Z=>
   refine iteF ?_;erw[iv,r,rs,rfl,er,ir];erw[iu,rfl,_];have h1:xs.length<=600:=lx;have h2:Z.length<=600:=ly;refine⟨0,r,rs,1,SqT.of er,λak A0 af=> ?_⟩;refine lc_tupS (tl:= []) (λd=> .bl (isStr d)) er ir (fits ()) af (λd0 x0 H3 R al s3 i3 q=>⟨0,x0,"str",tyD d0,isStr d0,1,i3.ty,jw _,q _ H3 (Same.refl _) rfl⟩) λH1 ys s1 l1 i1=> ?_
   have ey:ys=(xs.map isStr).map V.bl:=IsL.bls (by rwa [uJ])
   subst ey;exists A0,xs.map isStr,1,SqL.of l1,0;have aa:(xs.map isStr).all id=J9 xs:=by rw [WP,U2];rfl
   rw [aa];cases O:J9 xs with
   |false=>exact iteT (U _ H1 s1 (by show Is H1 (if J9 xs=v_ then _ else D.non) _;rw [O];rfl))
   |true=>
    have ac:=strs_map O;have ag:rs=(xh xs).map V.str:=IsL.strs (by rwa [<-ac])
    have hsz:=isT_sz hg;have ad:=sum_lens (xh xs);rw [<-ac] at ad;simp only [sz] at hsz;have am:(xh xs).length*Z.length<=600*600:=Nat.mul_le_mul () h2
    have hj:=join_le Z (xh xs);refine iteF ⟨0,1,0,Z,r,xh xs,1,1,SqT.of (by rw [s1 _ _ er,ag]),(),?_⟩
    refine U _ H1 s1 ?_;show Is H1 (if J9 xs=v_ then .str (V2 Z (xh xs)) else D.non) _
    rw [O];exact[1:fits ()]
  |_=>exact iteT (U _ H (Same.refl _) rfl)
 |_=>exact iteT (U _ H (Same.refl _) (by cases dy<;>rfl))
noncomputable def jump (w:Str)(B:Str->D)(ps:oj Pt):Bool:=if w="like" then eqD (B (b0 ps)) (B (b1 ps)) else if w="rowed" then zd (B (b0 ps)) else if w="none" then decide (lenD (B (b0 ps))=0) else v_
noncomputable def JMP:oj Str:= ["go","like","rowed","none"]
noncomputable def ASK:oj Str:= ["ask","has","names"]
noncomputable def flt (w:Str):D:= .tup [.str "fault",.str w]
noncomputable def askF (w:Str)(held:D):D:=if w="names" then(if isStr held=v_ then .tup [.str "asks",.tup [.str "names",held]] else flt "kind") else if isNm held=v_ then .tup [.str "asks",.tup [.str (if w="ask" then "thing" else "has"),held]] else flt "name"
inductive sp_jump (vs:List V) (H:Hp) (Q:VK) (E_:XK):Prop
 |mk (d t:Addr) (w:Str) (B:Str->D) (ps:List Pt) (n:Nat) (_:vs= [.ref d,.str w,.ref t]) (_:Yq H d B) (_:Tr B) (_:w∈JMP) (_:j3 n 300 (w,ps)) (_:PtsAt H t ps) (_:Q (.bl (jump w B ps)) H)
inductive sp_asked (vs:List V) (H:Hp) (Q:VK) (E_:XK):Prop
 |mk (w:Str) (v:V) (d:D) (_:vs= [.str w,v]) (_:w∈ASK) (_:Is H d v) (_:∀(u:V) (H':Hp),Same H H'->Is H' (askF w d) u->Q u H')
mutual
theorem good_pu:∀{d:D},good d=v_->puD d=v_
 | .str _,_=>rfl
 | .tup xs,h=>by
  simp only [good,uw] at h;show puL xs=v_;exact goodL_pu h.2
 | .non,h| .bl _,h| .int _,h| .lst,h| .dct,h=>by simp [good] at h
theorem goodL_pu:∀{xs:oj D},goodL xs=v_->puL xs=v_
 | [],_=>rfl
 |x::r,h=>by
  simp only [goodL,uw] at h;simp only [puL,good_pu h.1,goodL_pu h.2,UG]
end
theorem good_tr {d:D}(h:good d=v_):trD d=true:=by
 cases d with
 |str z=>rfl
 |tup xs=>exact good_pu (d:= .tup xs) h
 |_=>simp [good] at h
theorem QZ {d:D}(h:isT d=v_):good d=true:=by
 unfold isT at h;rw [uw,uw] at h;exact h.1.1
theorem isT_tr {d:D}(h:isT d=v_):trD d=true:=good_tr (QZ h)
theorem ok_jump (T:Tx K mg a):#[K,1,a.Jv,a.Ji,["boxes","word","parts"],sp_jump]:=by
 exists 9,T.g_is_jump_taken,Zo
 erw[h,d,t,w,B,ps,n,rfl,hB,hT,hw,U,hp,k];exists _,%[#[qI,#[qr,QD,pv 1,qo,qC _],%[|#[qu,#[YE,#[op_eqD,1,hr.units],#[QJ,pv 0,#[qQ,qP,pv 2,qm]],#[QJ,pv 0,#[qQ,qP,pv 2,qm]],qC _]]],qy],#[qI,#[qr,QD,pv 1,qo,qC _],%[|#[qu,#[qz,#[qZ,2,rfl],T.qT,uY,#v[#[QJ,pv 0,#[qQ,qP,pv 2,qm]],#[Q7,.ty "tuple",T.Qy,vf]]]]],qy],#[qI,#[qr,QD,pv 1,qo,qC _],%[|#[qu,#[YE,QD,#[qz,Ju,T.yE,uG,#v[#[QJ,pv 0,#[qQ,qP,pv 2,qm]]]],qm,qC _]]],qy]|#[qu,je]]
 exists 7
 exists 0,1,0;simp only [JMP,uB,uC,uL] at hw;rcases hw with rfl|rfl|rfl|rfl
 ·refine Qr () ?_
  refine⟨0,1,0,Qr () ?_⟩
  refine⟨0,1,0,Qr () ?_⟩
  exact k
 ·refine QG () ?_
  erw[sh_bbl (QR U ()),x,y,i,rfl,O,hy,_]
  exists 0,0;dsimp only [tC];refine bget (i:=0) hB hp rfl O λv Z=> ?_;exists 0,0;dsimp only [tC];refine bget (i:=1) hB hp rfl hy λu iu=> ?_;refine⟨B x,B y,Z,iu,isT_tr (hT x O),isT_tr (hT y hy),?_,k⟩
  ·have:=Jn (hT x O);omega
 ·refine Qr () ?_
  refine⟨0,1,0,QG () ?_⟩
  erw[sh_bl (QR U ()),x,i,rfl,O,_]
  exists 0,0;refine bget (i:=0) hB hp rfl O λv Z=> ?_;exact⟨v,"tuple",tyD (B x),zd (B x),1,Z.ty,xU _,k⟩
 ·refine Qr () ?_
  refine⟨0,1,0,Qr () ?_⟩
  refine⟨0,1,0,QG () ?_⟩
  erw[sh_bl (QR U ()),x,i,rfl,O,_]
  exists 0,0;refine bget (i:=0) hB hp rfl O λv Z=> ?_;have k':Q (.bl (decide (lenD (B x)=0))) H:=k;have hg:=hT x O;generalize B x=dx at Z k' hg⊢;have hn:∀n:Nat,decide (V.int (n:Int)=V.int 0)=decide (n=0):=λn=>by
   rw [uW];constructor
   ·intro h;injection h with h;omega
   ·rintro rfl;rfl
  cases dx with
  |str z=>
   erw[Z,rfl,hz];refine .inl ⟨z,1,hz,1,?_⟩;rw [hn];exact k'
  |tup xs=>
   erw[Z,r,rs,rfl,er,ir];refine .inr ⟨r,rs,1,.inr (SqT.of er),λ_=>[1:?_]⟩;rw [hn,ir.length];exact k'
  |_=>simp [isT,good] at hg
theorem ok_asked (T:Tx K mg a):#[K,2,a.jM,a.jN,["word","held"],sp_asked]:=by
 have QW:=#[zp,T];exists 9,T.g_asked_or_fault,X2
 erw[h,w,v,d,rfl,hw,iv,k];exists _,%[#[qI,#[qr,QD,pv 0,qo,qC _],%[|#[qu,#[yb,#[Qq,#[qz,#[qZ,2,rfl],T.qT,uY,#v[pv 1,#[Q7,.ty "str",T.zn,Us]]]],#[qG,#v[qo,#[qG,#v[qo,pv 1]]]],#[qG,#v[qo,qo]]]]],qy],#[qI,#[Qz,#[Qq,#[qt,QW,hr.mono (),T.g_is_name,#v[pv 1]]]],%[|#[qu,#[qG,#v[qo,qo]]]],qy]|#[qu,#[qG,#v[qo,#[qG,#v[#[yb,#[qr,QD,pv 0,qo,qC _],qo,qo],pv 1]]]]]]
 exists 7
 have two:(2:Nat)<=sizeLine:=by decide
 have st:∀{H:Hp} (z:Str),z.length<=100->Is H (.str z) (.str z):=λz hz=>[1:yq ()]
 have fl:∀(z:Str) (H:Hp) (l:o3),z.length<=100->H l=UU->Is (upd H l (.tup [.str "fault",.str z])) (flt z) (.ref l):=λz H l hz U=>Is.new (ds:= [.str "fault",.str z]) ⟨_,0,st _ (),_,0,st _ hz,1⟩ U
 exists 0,1,0;by_cases c:w="names"
 ·subst c;refine QG () ?_
  have ea:askF "names" d=if isStr d=v_ then .tup [.str "asks",.tup [.str "names",d]] else flt "kind":=by unfold askF;rw [A3 rfl]
  rw [ea] at k;exists 0,v,"str",tyD d,isStr d,1,iv.ty,jw _,0;cases hs:isStr d with
  |true=>
   rw [hs] at k;refine iteT [0:two:λl U=>[two:λZ O=> ?_]];have t1:Same H (upd H l (.tup [.str "names",v])):=qh U _;refine k _ _ (t1.trans (qh O _)) ?_;exact Is.new (ds:= [.str "asks",.tup [.str "names",d]]) ⟨_,0,st _ (),_,0,Is.new (ds:= [.str "names",d]) ⟨_,0,st _ (),_,0,iv,1⟩ U,1⟩ O
  |false=>
   rw [hs] at k;exact iteF [two:λl U=>k _ _ (qh U _) (fl "kind" H l () U)]
 ·refine Qr (ud λh=>c (by injection h)) ?_
  have ea:askF w d=if isNm d=v_ then .tup [.str "asks",.tup [.str (if w="ask" then "thing" else "has"),d]] else flt "name":=by unfold askF;rw [A2 c]
  rw [ea] at k;refine⟨0,v,d,1,iv,λH1 s1=>[0:?_]⟩;cases hs:isNm d with
  |false=>
   rw [hs] at k;exact iteT [two:λl U=>k _ _ (s1.trans (qh U _)) (fl "name" H1 l () U)]
  |true=>
   rw [hs] at k;refine iteF ⟨0,1,0,?_⟩;have aa:∀z:Str,z.length<=100->z=(if w="ask" then("thing":Str) else "has")->∀l,H1 l=UU->∀Z,(upd H1 l (.tup [.str z,v])) Z=UU->Q (.ref Z) (upd (upd H1 l (.tup [.str z,v])) Z (.tup [.str "asks",.ref l])):=by
    intro z hz ez l U Z O;have t1:Same H1 (upd H1 l (.tup [.str z,v])):=qh U _;refine k _ _ (s1.trans (t1.trans (qh O _))) ?_;rw [<-ez];exact Is.new (ds:= [.str "asks",.tup [.str z,d]]) ⟨_,0,st _ (),_,0,Is.new (ds:= [.str z,d]) ⟨_,0,st _ hz,_,0,iv.mono s1.tk,1⟩ U,1⟩ O
   refine ite2 (λc2=> ?_) (λc2=> ?_)
   ·have e:w="ask":=by have:=uj c2;injection this
    exact⟨0,two,λl U=>⟨two,λZ O=>aa "thing" () (by rw [A3 e]) l U Z O⟩⟩
   ·have e:w≠"ask":=λe=>c2 (ub (by rw [e]))
    exact⟨0,two,λl U=>⟨two,λZ O=>aa "has" () (by rw [A2 e]) l U Z O⟩⟩
end
structure Mc where
 (x db dg:o3)
 rs:oj Rw
 own:Str
structure Rn where
 B:Str->D
 p:Int
 n:Nat
 gs:oj D
 th:D
noncomputable def MTH:oj Str:= ["now","answer","asked","lines","copy","go_on","is_waiting","do_row","hold"]
structure Fl (fs:oj (Str×V))(rv ru:V)(own:Str)(db dg:o3)(place:Int)(done:Nat)(tv:V):Prop where
 rows:fs.lookup ("rows":Str)=u_ rv
 rule:fs.lookup ("rule":Str)=u_ ru
 own:fs.lookup ("own":Str)=u_ (.str own)
 boxes:fs.lookup ("boxes":Str)=u_ (.ref db)
 place:fs.lookup ("place":Str)=u_ (.int place)
 done:fs.lookup ("done":Str)=u_ (.int (done:Int))
 given:fs.lookup ("given":Str)=u_ (.ref dg)
 there:fs.lookup ("there":Str)=u_ tv
 meth:∀m∈MTH,fs.lookup m=UU
 len:fs.length<=20
theorem YV {f:Str}{v:V}:∀{fs:oj (Str×V)}{u:V},fs.lookup f=u_ u->(putF f v fs).length=fs.length
 |(g,x)::r,u,h=>by
  unfold putF;by_cases c:g=f
  ·rw [A3 c];rfl
  ·rw [A2 c,ui,ui];have e:(f==g)=false:=by simp;exact λz=>c z.symm
   rw [vc,e] at h;rw [YV (u:=u) h]
 | [],u,h=>by simp at h
section
variable {fs:oj (Str×V)}{rv ru:V}{own:Str}{db dg:o3}{place:Int}{done:Nat}{tv:V}
theorem Fl.set_there {u:V}(h:Fl fs rv ru own db dg place done tv):Fl (putF "there" (u) fs) rv ru own db dg place done u:=by
 refine⟨?_,?_,?_,?_,?_,?_,?_,?_,λm hm=> ?_,by rw [YV h.there];exact h.len⟩
 all_goals rw [qH]
 all_goals first|rw [A3 rfl]|(rw [A2 ()];first|exact h.rows|exact h.rule|exact h.own|exact h.boxes|exact h.place|exact h.done|exact h.given|exact h.there)|(rw [A2 (λe=>by subst e;revert hm;decide+kernel)];exact h.meth m hm)
theorem Fl.set_place {q:Int}(h:Fl fs rv ru own db dg place done tv):Fl (putF "place" (.int q) fs) rv ru own db dg q done tv:=by
 refine⟨?_,?_,?_,?_,?_,?_,?_,?_,λm hm=> ?_,by rw [YV h.place];exact h.len⟩
 all_goals rw [qH]
 all_goals first|rw [A3 rfl]|(rw [A2 ()];first|exact h.rows|exact h.rule|exact h.own|exact h.boxes|exact h.place|exact h.done|exact h.given|exact h.there)|(rw [A2 (λe=>by subst e;revert hm;decide+kernel)];exact h.meth m hm)
theorem Fl.set_done {k:Nat}(h:Fl fs rv ru own db dg place done tv):Fl (putF "done" (.int ((k:Nat):Int)) fs) rv ru own db dg place k tv:=by
 refine⟨?_,?_,?_,?_,?_,?_,?_,?_,λm hm=> ?_,by rw [YV h.done];exact h.len⟩
 all_goals rw [qH]
 all_goals first|rw [A3 rfl]|(rw [A2 ()];first|exact h.rows|exact h.rule|exact h.own|exact h.boxes|exact h.place|exact h.done|exact h.given|exact h.there)|(rw [A2 (λe=>by subst e;revert hm;decide+kernel)];exact h.meth m hm)
end
noncomputable def Ye (C:o3)(H:Hp)(m:Mc)(r:Rn):Prop:=
 ∃(dx:o3) (fs:oj (Str×V)) (rv ru tv:V) (gv:oj V),H m.x=u_ (.ins C dx fs)/\Fl fs rv ru m.own m.db m.dg r.p r.n tv/\Is H (.tup (m.rs.map rowD)) rv/\Is H (xV m.rs) ru/\Yq H m.db r.B/\H m.dg=u_ (.lst gv)/\L2.IsL H r.gs gv/\Is H r.th tv
structure Mv (m:Mc)(H H':Hp):Prop where
 kept:∀b o,H b=u_ o->b≠m.x->b≠m.db->b≠m.dg->H' b=u_ o
 tk:Tk H H'
theorem Mv.refl (m:Mc)(H:Hp):Mv m H H:=[λ_ _ e _ _ _=>e:Tk.refl H]
variable {H H1 H2:Hp}
theorem Mv.trans {m:Mc}(h:Mv m H H1)(h2:Mv m H1 H2):Mv m H H2:=[λb o e n1 O U=>h2.kept b o (h.kept b o e n1 O U) n1 O U:h.tk.trans h2.tk]
variable {H':Hp}
theorem Mv.of {m:Mc}(s:Same H H'):Mv m H H':=[λb o e _ _ _=>s b o e:s.tk]
variable {C:o3}
theorem Ye.same {m:Mc}{r:Rn}(h:Ye C H m r)(s:Same H H'):Ye C H' m r:=
 let⟨dx,fs,rv,ru,tv,gv,e,f,i,j,b,g,gl,t⟩:=h;⟨dx,fs,rv,ru,tv,gv,s _ _ e,f,i.mono s.tk,j.mono s.tk,b.same s,s _ _ g,gl.mono s.tk,t.mono s.tk⟩
variable {dx:o3}
theorem Yq.ne {x db:o3}{fs:oj (Str×V)}{B:Str->D}(e:H x=u_ (.ins C dx fs))(h:Yq H db B):db≠x:=λz=>by
 erw[h,f,O,_];rw [z,e] at O;cases O
variable {fs':oj (Str×V)}{rv:V}
theorem yf {m:Mc}{r:Rn}{fs:oj (Str×V)}{ru tv:V}{O:oj V}(e:H m.x=u_ (.ins C dx fs))(f:Fl fs' rv ru m.own m.db m.dg r.p r.n tv)(i:Is H (.tup (m.rs.map rowD)) rv)(j:Is H (xV m.rs) ru)(b:Yq H m.db r.B)(U:H m.dg=u_ (.lst O))(Z:L2.IsL H r.gs O)(t:Is H r.th tv):
  Ye C (upd H m.x (.ins C dx fs')) m r/\Mv m H (upd H m.x (.ins C dx fs')):=by
 have tk:Tk H (upd H m.x (.ins C dx fs')):=Tk.updI e;have n1:m.db≠m.x:=Yq.ne e b;have n2:m.dg≠m.x:=λz=>by rw [z,e] at U;cases U
 exact⟨⟨dx,fs',rv,ru,tv,O,qi,f,i.mono tk,j.mono tk,b.move tk (qk n1),by rwa [qk n2],Z.mono tk,t.mono tk⟩,⟨λc o h a1 _ _=>by rwa [qk a1],tk⟩⟩
noncomputable def QO:D->Bool
 | .tup (.str w::_)=>decide (w="asks")
 |_=>UV
noncomputable def Th (d:D):Prop:=d= .non∨∃w e,d= .tup [.str w,e]
inductive Out where
 |go (B:Str->D) (p:Int)|stop (e:D)
noncomputable def Out.B (B:Str->D):Out->Str->D
 | .go B' _=>B'
 | .stop _=>B
noncomputable def Out.P (p:Int):Out->Int
 | .go _ p'=>p'
 | .stop _=>p
noncomputable def Out.T:Out->D
 | .go _ _=> .non
 | .stop e=>e
noncomputable def holdO (B:Str->D)(z:Str)(e:D)(p:Int):Out:=match e with
 | .non=> .stop (flt "kind")
 |e=>if isT e=v_ then .go (setB B z e) (p+1) else .stop (flt "big")
inductive sp_now (C:Addr) (vs:List V) (H:Hp) (Q:VK) (E_:XK):Prop
 |mk (m:Mc) (r:Rn) (_:vs= [.ref m.x]) (_:Ye C H m r) (_:∀v,Is H r.th v->Q v H)
inductive sp_asks (C:Addr) (vs:List V) (H:Hp) (Q:VK) (E_:XK):Prop
 |mk (m:Mc) (r:Rn) (_:vs= [.ref m.x]) (_:Ye C H m r) (_:∀v H',Same H H'->Is H' (.tup r.gs) v->Q v H')
inductive sp_wait (C:Addr) (vs:List V) (H:Hp) (Q:VK) (E_:XK):Prop
 |mk (m:Mc) (r:Rn) (_:vs= [.ref m.x]) (_:Ye C H m r) (_:Th r.th) (_:Q (.bl (QO r.th)) H)
inductive sp_hold (C:Addr) (vs:List V) (H:Hp) (Q:VK) (E_:XK):Prop
 |mk (m:Mc) (r:Rn) (z:Str) (v:V) (e:D) (_:vs= [.ref m.x,.str z,v]) (_:Ye C H m r) (_:r.th= .non) (_:z∈BX) (_:Is H e v) (_:∀H',Mv m H H'->Ye C H' m ⟨(holdO r.B z e r.p).B r.B,(holdO r.B z e r.p).P r.p,r.n,r.gs,(holdO r.B z e r.p).T⟩->Q .non H')
section
variable {P:o9}{w:og}{K:o0}{mg:Str->om o6}{base:o8}{a:Ad}{g:Ga}
theorem ok_now (T:Tx K mg a):#[K,1,a.XN,a.Xx,["self"],(sp_now a.qp)]:=by
 exists 9,T.g_Machine_now,We,O
 erw[h,m,r,rfl,[dx,fs,rv,ru,tv,U,e,f,Z,iu,ib,hg,gl,it],k];exists _,%[|#[qu,#[qN,5,pv 0,rfl]]]
 exists 7
 exact⟨0,m.x,_,dx,fs,tv,1,e,T.qw,T.qL,f.there,k _ it⟩
theorem ok_asks (T:Tx K mg a):#[K,1,a.Ja,a.JM,["self"],(sp_asks a.qp)]:=by
 exists 9,T.g_Machine_asked,Zk
 erw[h,m,r,rfl,[dx,fs,rv,ru,tv,U,e,f,ir,iu,ib,Z,gl,it],k];exists _,%[|#[qu,#[qY,qU,T.Qy,vf,#v[#[qN,5,pv 0,rfl]]]]]
 exists 7
 exact⟨0,m.x,_,dx,fs,0,e,T.qw,T.Yt,f.given,m.dg,U,1,.inl [SqL.of Z:λl O=>k _ _ (qh O _) (Is.new gl O)]⟩
theorem ok_wait (T:Tx K mg a):#[K,1,a.Yn,a.Yo,["self"],(sp_wait a.qp)]:=by
 exists 9,T.g_Machine_is_waiting,Jl
 erw[h,m,[B,p,n,gs,th],rfl,[dx,fs,rv,ru,tv,gv,e,f,ir,Z,ib,hg,gl,it],O,k];simp only at f ib gl it O k;exists _,%[|#[qu,#[pe_and,7,#[YE,op_notN,#[qN,5,pv 0,rfl],Qb,qC _],#[pe_one,#[YE,QD,#[qQ,Xq,#[qN,5,pv 0,rfl],qm],qo,qC _]]]]]
 exists 7
 exists 0,m.x,_,dx,fs,tv,1,e,T.qw,T.qL,f.there,1;rcases O with rfl|⟨w1,e1,rfl⟩
 ·cases(show tv= .non from it)
  exact[0:Qr () k]
 ·have U:=it;erw[U,t0,us,rfl,et,Z];refine⟨0,QG (by simp) ⟨0,m.x,_,dx,fs,0,e,T.qw,T.qL,f.there,?_⟩⟩
  refine .inr (.inl (xS (i:=0) (d:= .str w1) it (Ql (j:=0) rfl) λq hq=> ?_));erw[hq,rfl,_];exists 1;have ew:decide (V.str w1=V.str ("asks":Str))=decide (w1="asks"):=by
   rw [uW];exact⟨λh=>by injection h,λh=>by rw [h]⟩
  rw [ew];exact k
theorem ok_hold (T:Tx K mg a):#[K,3,a.xf,a.J4,["self","box","tree"],(sp_hold a.qp)]:=by
 have yz:=#[jo,T];exists 9,T.g_Machine_hold,wW
 erw[h,m,[B,p,n,gs,th],z,v,d,rfl,[dx,fs,rv,ru,tv,gv,e,f,ir,iu,ib,hg,gl,it],aa,hz,O,k];simp only at f ib gl it aa k;subst aa;exists _,%[|#[qI,#[qr,YO,pv 2,Qb,qC _],%[|#[Qd,#[qG,#v[qo,qo]]]],%[|#[qI,#[Qz,#[Qq,#[qt,yz,hr.mono (),T.g_is_tree,#v[pv 2]]]],%[|#[Qd,#[qG,#v[qo,qo]]]],%[#[xz,pv 1,pv 2]|#[Jy,10,pv 0,qm,in_add]]]]]]
 exists 7
 have two:(2:Nat)<=sizeLine:=by decide
 have st:∀{H:Hp} (z:Str),z.length<=100->Is H (.str z) (.str z):=λz hz=>[1:yq ()]
 have fl:∀(z:Str) (H:Hp) (l:o3),z.length<=100->H l=UU->Is (upd H l (.tup [.str "fault",.str z])) (flt z) (.ref l):=λz H l hz U=>Is.new (ds:= [.str "fault",.str z]) ⟨_,0,st _ (),_,0,st _ hz,1⟩ U
 exists 0,1,0;have Z:fs.length<1000:=by have:=f.len;omega
 by_cases c:d= .non
 ·subst c;cases(show v= .non from O)
  refine QG () [two:λl U=> ?_]
  have s1:Same H (upd H l (.tup [.str "fault",.str "kind"])):=qh U _;exists 0,m.x,_,dx,fs,1,s1 _ _ e,T.qw,T.qL,Z;erw[yf (r:=⟨B,p,n,gs,flt "kind"⟩) (s1 _ _ e) (f.set_there (u:= .ref l)) (ir.mono s1.tk) (iu.mono s1.tk) (ib.same s1) (s1 _ _ hg) (gl.mono s1.tk) (fl "kind" H l () U),m1,m2]
  exact k _ ((Mv.of s1).trans m2) m1
 ·have hv:v≠ .non:=by
   rintro rfl;cases d with
   |non=>exact c rfl
   |bl b=>cases(show V.non= .bl b from O)
   |int i=>cases(show V.non= .int i from O)
   |str z=>erw[O,h,_];cases h
   |lst=>erw[O,_,_,h,_];cases h
   |dct=>erw[O,_,_,h,_];cases h
   |tup xs=>erw[O,_,_,h,_];cases h
  have eo:holdO B z d p=if isT d=v_ then .go (setB B z d) (p+1) else .stop (flt "big"):=by
   cases d with
   |non=>exact absurd rfl c
   |_=>rfl
  rw [eo] at k;refine Qr (ud hv) ?_;refine⟨0,v,d,1,O,λH1 s1=>[0:?_]⟩;cases ht:isT d with
  |false=>
   rw [ht] at k;refine iteT [two:λl U=> ?_];have s2:Same H (upd H1 l (.tup [.str "fault",.str "big"])):=s1.trans (qh U _);exists 0,m.x,_,dx,fs,1,s2 _ _ e,T.qw,T.qL,Z;erw[yf (r:=⟨B,p,n,gs,flt "big"⟩) (s2 _ _ e) (f.set_there (u:= .ref l)) (ir.mono s2.tk) (iu.mono s2.tk) (ib.same s2) (s2 _ _ hg) (gl.mono s2.tk) (fl "big" H1 l () U),m1,m2]
   exact k _ ((Mv.of s2).trans m2) m1
  |true=>
   rw [ht] at k;refine iteF ?_;have ad:=O.mono s1.tk;erw[(ib.same s1).put hz ad,kvs,ac,ae,t2];have n1:m.db≠m.x:=Yq.ne e ib;have n3:m.dg≠m.db:=λz=>by
    erw[ib,ff,e2,_];rw [z,e2] at hg;cases hg
   have e1:=s1 _ _ e;have e3:(upd H1 m.db (.dK kvs)) m.x=u_ (.ins a.qp dx fs):=by rwa [qk n1.symm]
   exists 0,0,m.x,_,dx,fs,0,e1,T.qw,T.Qu,f.boxes,0,m.db,0,ac;exists 0,m.x,_,dx,fs,0,e3,T.qw,T.Qj,f.place,p,(1),1,1,dx,fs,e3,Z;obtain⟨m1,m2⟩:=yf (r:=⟨setB B z d,p+1,n,gs,.non⟩) e3 (f.set_place (q:=p+1)) ((ir.mono s1.tk).mono t2) ((iu.mono s1.tk).mono t2) ae (by rw [qk n3];exact s1 _ _ hg) ((gl.mono s1.tk).mono t2) it
   exact k _ ((Mv.of s1).trans (Mv.trans ⟨λb o h _ a2 _=>by rwa [qk a2],t2⟩ m2)) m1
noncomputable def MKR:oj Str:= ["text","self","copy","row","put","join","first","rest","size","cut","glue"]
noncomputable def lineNo (ps:oj Pt):Int:=match ps.getLast? with
 |some (.n i)=>i
 |_=>0
noncomputable def rowO (own:Str)(r:Rw)(B:Str->D)(p:Int):Out:=
 if r.1∈MKR then holdO B (b0 r.2) (made r.1 B own r.2) p else if r.1∈ASK then .stop (askF r.1 (B (b1 r.2))) else if r.1="say" then .stop (.tup [.str "said",B (b0 r.2)]) else
 if r.1="fault" then .stop (flt "told") else if jump r.1 B r.2=v_ then .go B (lineNo r.2) else .go B (p+1)
theorem frm_mk:∀x∈FRM,x.1∈MKR->x.2.head? =u_ .box:=by decide+kernel
theorem ZQ:∀x∈FRM,x.1∈ASK->x.1∉MKR/\x.1∈NOMK/\x.2= [.box,.box]:=by decide+kernel
theorem frm_say:∀x∈FRM,x.1="say"->x.2= [.box]:=by decide+kernel
theorem frm_all:∀x∈FRM,x.1∈MKR∨(x.1∉MKR/\x.1∈NOMK/\(x.1∈ASK∨x.1∉ASK/\(x.1="say"∨x.1="fault"∨x.1≠"say"/\x.1≠"fault"/\x.1∈JMP))):=by decide+kernel
theorem frm_jmp:∀x∈FRM,x.1∈JMP->x.2.getLast? =u_ .line:=by decide+kernel
variable {r:Rw}
theorem mk_b0 {m:Nat}(h:j3 n m r)(U:r.1∈MKR):∃z ps,r.2= .s z::ps/\z∈BX:=by
 erw[h,ks,Z,O];have:=frm_mk _ Z U
 match ks,O,this with
 | .box::ks,O,_=>
  match h2:r.2,O with
  | .s z::ps,O=>exact⟨z,ps,1,O.1⟩
  | .n _::_,O=>exact O.1.elim
theorem WI {n m:Nat}:∀{ks:oj Kd}{ps:oj Pt},xF n m ks ps->ks.getLast? =u_ .line->∃qs i,ps=qs++ [.n i]/\1<=i/\i<=(n:Int)
 | [k],[p],h,e=>by
  cases e;cases p with
  |n i=>exact⟨[],i,1,h.1⟩
  |s z=>exact h.1.elim
 |k::k2::ks,p::p2::ps,h,e=>by
  rw [UH] at e;erw[WI (ks:=k2::ks) (ps:=p2::ps) h.2 e,qs,i,O,hi];exact⟨p::qs,i,by rw [O];rfl,hi⟩
 | [k],p::_::_,h,_=>h.2.elim
 |k::_::_,[p],h,_=>h.2.elim
 | [],[],_,e=>by cases e
 | [],_::_,h,_=>h.elim
 |_::_,[],h,_=>h.elim
theorem jmp_last {m:Nat}(h:j3 n m r)(O:r.1∈JMP):∃qs i,r.2=qs++ [.n i]/\1<=i/\i<=(n:Int)/\lineNo r.2=i:=by
 erw[h,ks,U,Z];erw[WI Z (frm_jmp _ U O),qs,i,e,h1,h2];exists qs,i,e,h1,h2;unfold lineNo;rw [e,List.getLast?_concat]
inductive sp_dorow (C:Addr) (vs:List V) (H:Hp) (Q:VK) (E_:XK):Prop
 |mk (m:Mc) (r:Rn) (rw:Rw) (v:V) (k:Nat) (_:vs= [.ref m.x,v]) (_:Ye C H m r) (_:r.th= .non) (_:Tr r.B) (_:m.own.length<=100) (_:j3 k 300 rw) (_:Is H (rowD rw) v) (_:∀H',Mv m H H'->Ye C H' m ⟨(rowO m.own rw r.B r.p).B r.B,(rowO m.own rw r.B r.p).P r.p,r.n,r.gs,(rowO m.own rw r.B r.p).T⟩->Q .non H')
variable {x:Str}
theorem mk_of (T:Tx K mg a)(C:Fx K w mg g a)(h:x∈MKR):∃f fd,PySem.W.nsIn K g.makers x=u_ (u_ (.ref f))/\FnOk P w K mg base CX0 1 f fd ["boxes","own","parts"] (Xi x)/\zo K fd ["boxes","own","parts"] []/\PySem.W.keepIn K (.ref f)=true:=by
 simp only [MKR,uB,uC,uL] at h;rcases h with rfl|rfl|rfl|rfl|rfl|rfl|rfl|rfl|rfl|rfl|rfl
 ·exact⟨_,_,C.k_text,ok_text T,T.g_text_made.b,T.g_text_made.F.kp⟩
 ·exact⟨_,_,C.k_self,ok_self T,T.g_self_made.b,T.g_self_made.F.kp⟩
 ·exact⟨_,_,C.k_copy,ok_copy T,T.g_copy_made.b,T.g_copy_made.F.kp⟩
 ·exact⟨_,_,C.k_row,ok_row T,T.g_row_made.b,T.g_row_made.F.kp⟩
 ·exact⟨_,_,C.k_put,ok_put T,T.g_put_made.b,T.g_put_made.F.kp⟩
 ·exact⟨_,_,C.k_join,ok_join T,T.g_join_made.b,T.g_join_made.F.kp⟩
 ·exact⟨_,_,C.k_first,ok_first T,T.g_first_made.b,T.g_first_made.F.kp⟩
 ·exact⟨_,_,C.k_rest,ok_rest T,T.g_rest_made.b,T.g_rest_made.F.kp⟩
 ·exact⟨_,_,C.k_size,ok_size T,T.g_size_made.b,T.g_size_made.F.kp⟩
 ·exact⟨_,_,C.k_cut,ok_cut T,T.g_cut_made.b,T.g_cut_made.F.kp⟩
 ·exact⟨_,_,C.k_glue,ok_glue T,T.g_glue_made.b,T.g_glue_made.F.kp⟩
theorem ok_dorow (T:Tx K mg a)(C:Fx K w mg g a):#[K,4,a.jS,a.jR,["self","row"],(sp_dorow a.qp)]:=by
 have wy:=#[ok_jump,T];have Zp:=#[ok_asked,T];have Wb:=#[ok_hold,T];exists 9,T.g_Machine_do_row,yT
 erw[h,m,[B,p,n,gs,th],r,v,nn,rfl,M,af,hT,ho,ad,iv,k];simp only at af hT k;subst af;exists _,%[#[qE,(2),yT.nd,#[qQ,qP,pv 1,qm]],#[qE,(3),yT.nd,#[qQ,qP,pv 1,qm]]|#[qI,#[qr,op_inK,pv 2,#[pe_gR,C.m_MAKERS],#[w]],%[|#[Qa,#[Qm,pv 0,T.qw,T.g_Machine_hold,Wb,#v[#[qQ,qP,pv 3,qm],#[pe_callX,9,(1),5,⟨1,1,1,1,1⟩,#[qQ,ix_K,#[pe_gR,C.m_MAKERS],pv 2],hr.mono (),#v[#[qN,5,pv 0,rfl],#[qN,5,pv 0,rfl],pv 3],_,_]]]]],%[|#[qI,#[qr,QA,pv 2,#[pe_gR,C.m_ASKING],#[w]],%[|#[Qd,#[qt,Zp,hr.mono (),T.g_asked_or_fault,#v[pv 2,#[QJ,#[qN,5,pv 0,rfl],#[qQ,qP,pv 3,qm]]]]]],%[|#[qI,#[qr,QD,pv 2,qo,qC _],%[|#[Qd,#[qG,#v[qo,#[QJ,#[qN,5,pv 0,rfl],#[qQ,qP,pv 3,qm]]]]]],%[|#[qI,#[qr,QD,pv 2,qo,qC _],%[|#[Qd,#[qG,#v[qo,qo]]]],%[|#[qI,#[Qq,#[qt,wy,hr.mono (),T.g_is_jump_taken,#v[#[qN,5,pv 0,rfl],pv 2,pv 3]]],%[|#[Qd,#[qQ,qP,pv 3,#[pe_un,6,un_neg,qm]]]],%[|#[Jy,10,pv 0,qm,in_add]]]]]]]]]]]]
 exists 7
 have two:(2:Nat)<=sizeLine:=by decide
 erw[r,U,ps];erw[iv,t0,us,rfl,et,iu];erw[iu,v1,u1,rfl,[rfl,aq],v2,u2,rfl,i2,e2];cases(show u2= [] from e2)
 exists 0,t0,_,(0),0,1,SqT.of et,1;exists 0,t0,_,(1),0,1,SqT.of et,1;erw[id i2,t1,au,rfl,aw,ax];have ac:PtsAt H t1 ps:=i2;have al:=ad;erw[al,ks,hk,hp];have hM:=M;erw[hM,dx,fs,rv,ru,tv,gv,e,f,ir,ij,ib,hg,gl,it];simp only at f ib gl it;have ae:fs.length<1000:=by have:=f.len;omega
 rcases frm_all _ hk with Z|⟨Z,am,aa⟩
 ·erw[mk_of (P:=P) (base:=base) T C Z,fa,fd,hn,hF,hb,ao];erw[mk_b0 ad Z,z,qs,rfl,ap];have eo:rowO m.own (U,.s z::qs) B p=holdO B z (made U B m.own (.s z::qs)) p:=by unfold rowO;rw [A3 Z];rfl
  rw [eo] at k;exists 0,U,g.makers,0,1,C.km,hn,0;refine iteT ?_;exists 0,m.x,dx,fs,1,e,f.meth _ (),0
  dsimp only [tC];refine box_at (i:=0) ac rfl ?_;exists 0,U,g.makers,_,.ref fa,1,1,C.km,hn,1,fa,fd,_,Xi U,1,hF,hb,ao;exists 0,m.x,_,dx,fs,0,e,T.qw,T.Qu,f.boxes,0,m.x,_,dx,fs,0,e,T.qw,T.XH,f.own,0;refine⟨m.db,t1,m.own,B,.s z::qs,nn,1,ib,hT,ho,ad,ac,λv H1 s1 hv=> ?_⟩;exact⟨m,⟨B,p,n,gs,.non⟩,z,v,0,M.same s1,1,ap,hv,λH2 m2 M2=>k H2 ((Mv.of s1).trans m2) M2⟩
 ·exists 0,U,g.makers,0,1,C.km,C.k_no _ am,0;refine iteF ?_;exists 0,g.asking,0,.inr (C.asking _),1,1,0;have ei:inV (.str U) [.str "ask",.str "has",.str "names"]=decide (U∈ASK):=JB (z:=U) (l:=ASK);rw [A2 u9,ei];rcases aa with O|⟨O,aa⟩
  ·refine QG (ub O) ?_;erw[ZQ _ hk O,_,_,ek];simp only at ek;subst ek;erw[wJ hp,z0,z1,rfl,h0,h1];have eo:rowO m.own (U,[.s z0,.s z1]) B p= .stop (askF U (B z1)):=by unfold rowO;rw [A2 Z,A3 O];rfl
   rw [eo] at k;exists 0,0,m.x,_,dx,fs,0,e,T.qw,T.Qu,f.boxes,0;dsimp only [tC];refine bget (i:=1) ib ac rfl h1 λv hv=> ?_;refine⟨U,v,B z1,1,O,hv,λu H1 s1 hu=> ?_⟩;exists 0,m.x,_,dx,fs,1,s1 _ _ e,T.qw,T.qL,ae;erw[yf (r:=⟨B,p,n,gs,askF U (B z1)⟩) (s1 _ _ e) (f.set_there (u:=u)) (ir.mono s1.tk) (ij.mono s1.tk) (ib.same s1) (s1 _ _ hg) (gl.mono s1.tk) hu,m1,m2];exact k _ ((Mv.of s1).trans m2) m1
  ·refine Qr (ud O) ?_;exists 0,1,0;have es:∀y:Str,decide (V.str U=V.str y)=decide (U=y):=λy=>by
    rw [uW];exact⟨λh=>by injection h,λh=>by rw [h]⟩
   rcases aa with rfl|rfl|⟨hs,hf,hj⟩
   ·refine QG (ub rfl) ?_;have ek:=frm_say _ hk rfl;simp only at ek;subst ek;erw[sh_b hp,z0,rfl,h0];have eo:rowO m.own ("say",[.s z0]) B p= .stop (.tup [.str "said",B z0]):=by unfold rowO;rw [A2 Z,A2 O,A3 rfl];rfl
    rw [eo] at k;exists 0,m.x,_,dx,fs,0,e,T.qw,T.Qu,f.boxes,0;dsimp only [tC];refine bget (i:=0) ib ac rfl h0 λv hv=> ?_;refine[two:λl hl=> ?_];have s1:Same H (upd H l (.tup [.str "said",v])):=qh hl _;exists 0,m.x,_,dx,fs,1,s1 _ _ e,T.qw,T.qL,ae;erw[yf (r:=⟨B,p,n,gs,.tup [.str "said",B z0]⟩) (s1 _ _ e) (f.set_there (u:= .ref l)) (ir.mono s1.tk) (ij.mono s1.tk) (ib.same s1) (s1 _ _ hg) (gl.mono s1.tk) (Is.new (ds:= [.str "said",B z0]) ⟨_,0,[1:yq ()],_,0,hv,1⟩ hl),m1,m2]
    exact k _ ((Mv.of s1).trans m2) m1
   ·have ag:¬(("fault":Str)="say"):=by decide+kernel
    refine Qr (ud λh=>ag (by injection h)) ?_
    refine⟨0,1,0,QG (ub rfl) ?_⟩;have eo:rowO m.own ("fault",ps) B p= .stop (flt "told"):=by unfold rowO;rw [A2 Z,A2 O,A2 ag,A3 rfl]
    rw [eo] at k;refine[two:λl hl=> ?_];have s1:Same H (upd H l (.tup [.str "fault",.str "told"])):=qh hl _;exists 0,m.x,_,dx,fs,1,s1 _ _ e,T.qw,T.qL,ae;erw[yf (r:=⟨B,p,n,gs,flt "told"⟩) (s1 _ _ e) (f.set_there (u:= .ref l)) (ir.mono s1.tk) (ij.mono s1.tk) (ib.same s1) (s1 _ _ hg) (gl.mono s1.tk) (Is.new (ds:= [.str "fault",.str "told"]) ⟨_,0,[1:yq ()],_,0,[1:yq ()],1⟩ hl),m1,m2]
    exact k _ ((Mv.of s1).trans m2) m1
   ·refine Qr (by rw [es];exact ud hs) ?_
    refine⟨0,1,0,Qr (by rw [es];exact ud hf) ?_⟩
    have eo:rowO m.own (U,ps) B p=if jump U B ps=v_ then .go B (lineNo ps) else .go B (p+1):=by unfold rowO;rw [A2 Z,A2 O,A2 hs,A2 hf]
    rw [eo] at k;erw[jmp_last ad hj,qs,i,ah,h1,h2,hl];simp only at ah hl;exists 0,m.x,_,dx,fs,0,e,T.qw,T.Qu,f.boxes,0,0,m.db,t1,U,B,ps,nn,1,ib,hT,hj,ad,ac,0;cases ak:jump U B ps with
    |true=>
     rw [ak] at k;refine iteT ⟨0,(1),1,?_⟩;refine xS (i:= -1) (d:= .int i) ac (by rw [ah,ur];exact kK _ _) λq hq=> ?_
     cases(show q= .int i from hq)
     exists 0,m.x,_,dx,fs,1,e,T.qw,T.Qj,ae;erw[yf (r:=⟨B,i,n,gs,.non⟩) e (f.set_place (q:=i)) ir ij ib hg gl it,m1,m2];refine k _ m2 ?_;show Ye _ _ _ ⟨B,lineNo ps,n,gs,.non⟩;rwa [hl]
    |false=>
     rw [ak] at k;refine iteF ⟨0,m.x,_,dx,fs,0,e,T.qw,T.Qj,f.place,p,(1),1,1,dx,fs,e,ae,?_⟩;erw[yf (r:=⟨B,p+1,n,gs,.non⟩) e (f.set_place (q:=p+1)) ir ij ib hg gl it,m1,m2];exact k _ m2 m1
noncomputable def j7 (rs:oj Rw)(p:Int):Rw:=rs.getD (p.toNat-1) ("fault",[])
noncomputable def runS (rs:oj Rw)(own:Str)(gs:oj D):Nat->(Str->D)->Int->Nat->Rn
 |0,B,p,n=>⟨B,p,n,gs,if p>rs.length then flt "silent" else flt "long"⟩
 |f+1,B,p,n=>if p>rs.length then⟨B,p,n,gs,flt "silent"⟩ else match rowO own (j7 rs p) B p with
  | .go B' p'=>runS rs own gs f B' p' (n+1)
  | .stop e=>⟨B,p,if QO e=v_ then n else n+1,gs,e⟩
variable {rs:oj Rw}
theorem row_at {p:Int}(h1:1<=p)(h2:p<=rs.length):rs[p.toNat-1]? =u_ (j7 rs p):=by
 unfold j7;have h:p.toNat-1<rs.length:=by omega
 simp [Vz,h]
theorem kj {p:Int}(h1:1<=p)(h2:p<=rs.length):j7 rs p∈rs:=v5 (row_at h1 h2)
variable {e:D}
theorem Ks {B:Str->D}(h:Tr B)(O:isT e=v_):Tr (setB B z e):=λy U=>by
 unfold setB;by_cases c:y=z
 ·rwa [A3 c]
 ·rw [A2 c];exact h y U
noncomputable def OutOk (n:Int):Out->Prop
 | .go B p=>Tr B/\1<=p/\p<=n+1
 | .stop e=>∃w d,e= .tup [.str w,d]
theorem holdO_ok {B:Str->D}{p n:Int}(h:Tr B)(h1:1<=p)(h2:p<=n):OutOk n (holdO B z e p):=by
 have O:OutOk n (if isT e=v_ then .go (setB B z e) (p+1) else .stop (flt "big")):=by
  by_cases c:isT e=v_
  ·rw [A3 c];exact[Ks h c:():()]
  ·rw [A2 c];exact[_:0]
 cases e with
 |non=>exact[_:0]
 |_=>exact O
theorem askF_ok (w:Str)(d:D):∃u e,askF w d= .tup [.str u,e]:=by
 unfold askF;split
 ·split
  ·exact[_:0]
  ·exact[_:0]
 ·split
  ·exact[_:0]
  ·exact[_:0]
variable {own:Str}
theorem rowO_ok {B:Str->D}{p:Int}(hr:j3 n 300 r)(h:Tr B)(h1:1<=p)(h2:p<=n):OutOk n (rowO own r B p):=by
 unfold rowO;by_cases O:r.1∈MKR
 ·rw [A3 O];exact holdO_ok h h1 h2
 rw [A2 O];by_cases U:r.1∈ASK
 ·rw [A3 U];exact askF_ok _ _
 rw [A2 U];by_cases Z:r.1="say"
 ·rw [A3 Z];exact[_:0]
 rw [A2 Z];by_cases c4:r.1="fault"
 ·rw [A3 c4];exact[_:0]
 rw [A2 c4];by_cases c5:jump r.1 B r.2=v_
 ·rw [A3 c5];erw[id hr,ks,hk,hp];have hj:r.1∈JMP:=by
   rcases frm_all _ hk with q|⟨_,_,q|⟨_,q|q|q⟩⟩
   ·exact absurd q O
   ·exact absurd q U
   ·exact absurd q Z
   ·exact absurd q c4
   ·exact q.2.2
  erw[jmp_last hr hj,qs,i,_,a1,a2,a3];exact⟨h,by rwa [a3],by rw [a3];omega⟩
 ·rw [A2 c5];exact[h:():()]
inductive sp_goon (C:Addr) (vs:List V) (H:Hp) (Q:VK) (E_:XK):Prop
 |mk (m:Mc) (r:Rn) (_:vs= [.ref m.x]) (_:Ye C H m r) (_:r.th= .non) (_:Tr r.B) (_:m.own.length<=100) (_:Q9 m.rs) (_:1<=r.p) (_:r.p<=m.rs.length+1) (_:r.n<=300) (_:∀(H':Hp),Mv m H H'->Ye C H' m (runS m.rs m.own r.gs (300-r.n) r.B r.p r.n)->Q .non H')
theorem ok_goon (T:Tx K mg a)(C:Fx K w mg g a):#[K,5,a.JF,a.Jp,["self"],(sp_goon a.qp)]:=by
 have Zl:=#[ok_dorow,T,C];have Qp:=#[ok_wait,T];exists 9,T.g_Machine_go_on,Zn
 erw[h,[x,db,dg,rs,own],[B0,p0,n0,gs,th],rfl,M0,aw,ax,ho,hR,aE,ay,aF,k];simp only at aw ax ho hR aE ay aF k;subst aw;exists _,%[|#[Xm,#[qr,YO,#[qN,5,pv 0,rfl],Qb,qC _],%[|#[qI,#[qr,kz,#[qN,5,pv 0,rfl],#[qz,qM,T.yE,uG,#v[#[qN,5,pv 0,rfl]]],qC _],%[|#[Qd,#[qG,#v[qo,qo]]]],%[|#[qI,#[qr,QD,#[qN,5,pv 0,rfl],#[kG,T.m_MOST_DONE],qC _],%[|#[Qd,#[qG,#v[qo,qo]]]],%[#[Qa,#[Qm,pv 0,T.qw,T.g_Machine_do_row,Zl,#v[#[qQ,qP,#[qN,5,pv 0,rfl],#[qX,op_sub,#[qN,5,pv 0,rfl],qm]]]]]|#[qI,#[Qz,#[Qq,#[yc,pv 0,T.qw,T.g_Machine_is_waiting,Qp]]],%[|#[Jy,10,pv 0,qm,in_add]],qy]]]]]]]]
 exists 7
 have two:(2:Nat)<=sizeLine:=by decide
 have n1:=hR.n1;generalize aA:runS rs own gs (300-n0) B0 p0 n0=res at k
 let J1_:Nat->L2.St->Hp->Prop:=λm σ H'=>∃(B:Str->D) (p:Int) (n:Nat) (th:D),σ= [u_ (.ref x)]/\Ye a.qp H' ⟨x,db,dg,rs,own⟩ ⟨B,p,n,gs,th⟩/\Mv ⟨x,db,dg,rs,own⟩ H H'/\Tr B/\1<=p/\p<=rs.length+1/\n<=300/\((th= .non/\runS rs own gs (300-n) B p n=res/\m=301-n)∨((∃u e,th= .tup [.str u,e])/\⟨B,p,n,gs,th⟩=res/\m=0))
 exists J1_,⟨_,B0,p0,n0,.non,1,M0,Mv.refl _ _,ax,(),(),(),.inl [1:aA:1]⟩
 rintro m σ H' ⟨B,p,n,th,rfl,M,mv,hT,ad,al,hn,hc⟩;have hM:=M;erw[hM,dx,fs,rv,ru,tv,gv,e,f,ir,ij,ib,hg,gl,it];simp only at e f ir ij ib hg gl it;have aB:fs.length<1000:=by have:=f.len;omega
 exists 0,x,_,dx,fs,tv,1,e,T.qw,T.qL,f.there,1,0;rcases hc with⟨rfl,Z,rfl⟩|⟨⟨u,d,rfl⟩,Z,rfl⟩
 ·cases(show tv= .non from it)
  have ag:∀{H:Hp},Is H .non .non:=rfl;refine QG () ?_
  refine⟨λσ' H2=>∃(B:Str->D) (p:Int) (n2:Nat) (th:D),σ'= [u_ (.ref x)]/\Ye a.qp H2 ⟨x,db,dg,rs,own⟩ ⟨B,p,n2,gs,th⟩/\Mv ⟨x,db,dg,rs,own⟩ H H2/\Tr B/\1<=p/\p<=rs.length+1/\n2<=300/\((th= .non/\runS rs own gs (300-n2) B p n2=res/\n<n2)∨((∃u e,th= .tup [.str u,e])/\⟨B,p,n2,gs,th⟩=res)),?_,?_⟩
  ·rintro σ' H2 ⟨B2,p2,n2,aM,rfl,M2,ae,aC,a1,a2,a3,aG⟩;rcases aG with⟨rfl,q1,q2⟩|⟨q0,q1⟩
   ·exact⟨301-n2,(),B2,p2,n2,0,M2,ae,aC,a1,a2,a3,.inl [1:q1:1]⟩
   ·exact⟨(0),(),B2,p2,n2,0,M2,ae,aC,a1,a2,a3,.inr [q0:q1:1]⟩
  ·have aH:=ir;erw[aH,ta,us,rfl,aI,iu];have aN:us.length=rs.length:=by rw [iu.length,ua]
   have fl:∀(z:Str) (H:Hp) (l:o3),z.length<=100->H l=UU->Is (upd H l (.tup [.str "fault",.str z])) (flt z) (.ref l):=λz H l hz hl=>Is.new (ds:= [.str "fault",.str z]) ⟨_,0,[1:yq ()],_,0,[1:yq ()],1⟩ hl
   have aa:∀(z:Str),z.length<=100->⟨B,p,n,gs,flt z⟩=res->∀l,H' l=UU->(λH2=>∃(B:Str->D) (p:Int) (n2:Nat) (th:D),[u_ (V.ref x)]= [u_ (V.ref x)]/\Ye a.qp H2 ⟨x,db,dg,rs,own⟩ ⟨B,p,n2,gs,th⟩/\Mv ⟨x,db,dg,rs,own⟩ H H2/\Tr B/\1<=p/\p<=rs.length+1/\n2<=300/\((th= .non/\runS rs own gs (300-n2) B p n2=res/\n<n2)∨((∃u e,th= .tup [.str u,e])/\⟨B,p,n2,gs,th⟩=res))) (upd (upd H' l (.tup [.str "fault",.str z])) x (.ins a.qp dx (putF "there" (.ref l) fs))):=by
    intro z hz aJ l hl;have s1:Same H' (upd H' l (.tup [.str "fault",.str z])):=qh hl _;erw[yf (m:=⟨x,db,dg,rs,own⟩) (r:=⟨B,p,n,gs,flt z⟩) (s1 _ _ e) (f.set_there (u:= .ref l)) (ir.mono s1.tk) (ij.mono s1.tk) (ib.same s1) (s1 _ _ hg) (gl.mono s1.tk) (fl z H' l hz hl),m1,m2];exact⟨B,p,n,flt z,1,m1,mv.trans ((Mv.of s1).trans m2),hT,ad,al,hn,.inr [[_:0]:aJ]⟩
   exists 0,x,_,dx,fs,0,e,T.qw,T.Qj,f.place,0,x,_,dx,fs,0,e,T.qw,T.yZ,f.rows,ta,us,1,.inr (SqT.of aI),_,0,1,0;refine ite2 (λc=> ?_) (λc=> ?_)
   ·have c':p>rs.length:=by have:=uj c;omega
    have er:⟨B,p,n,gs,flt "silent"⟩=res:=by
     rw [<-Z];cases h3:300-n with
     |zero=>unfold runS;rw [A3 c']
     |succ q=>unfold runS;rw [A3 c']
    refine[two:λl hl=> ?_];have s1:Same H' (upd H' l (.tup [.str "fault",.str "silent"])):=qh hl _;exact⟨0,x,_,dx,fs,1,s1 _ _ e,T.qw,T.qL,aB,aa "silent" () er l hl⟩
   ·have c':¬p>rs.length:=λh=>c (ub ())
    exists 0,x,_,dx,fs,0,e,T.qw,T.Q8,f.done,1,0;refine ite2 (λc2=> ?_) (λc2=> ?_)
    ·have e3:n=300:=by have:=uj c2;injection this with h;omega
     have er:⟨B,p,n,gs,flt "long"⟩=res:=by
      rw [<-Z,e3];show _=runS rs own gs 0 B p 300;unfold runS;rw [A2 c']
     refine[two:λl hl=> ?_];have s1:Same H' (upd H' l (.tup [.str "fault",.str "long"])):=qh hl _;exact⟨0,x,_,dx,fs,1,s1 _ _ e,T.qw,T.qL,aB,aa "long" () er l hl⟩
    ·have e3:n<300:=by
      rcases Uv n 300 with h|h
      ·exact h
      ·exact absurd (ub (by rw [show n=300 by omega];rfl)) c2
     have am:p<=rs.length:=by omega
     have aD:=hR.ok _ (kj ad am);have hok:=rowO_ok (own:=own) aD hT ad am;have U:res=match rowO own (j7 rs p) B p with
       | .go B' p'=>runS rs own gs (300-(n+1)) B' p' (n+1)
       | .stop e=>⟨B,p,if QO e=v_ then n else n+1,gs,e⟩:=by
      rw [<-Z,show 300-n=(300-(n+1))+1 by omega,runS,A2 c']
     exists 0,x,dx,fs,1,e,f.meth _ ()
     exists 0,x,_,dx,fs,0,e,T.qw,T.yZ,f.rows,0,x,_,dx,fs,0,e,T.qw,T.Qj,f.place,_,0,1;have aK:atI (rs.map rowD) (p-1)=u_ (rowD (j7 rs p)):=by
      rw [show p-1=((p.toNat-1:Nat):Int) by omega]
      exact Ql (by rw [uF,row_at ad am];rfl)
     refine xS (d:=rowD (j7 rs p)) ir aK λq hq=> ?_;refine⟨⟨x,db,dg,rs,own⟩,⟨B,p,n,gs,.non⟩,j7 rs p,q,rs.length,1,M,1,hT,ho,aD,hq,λH2 m2 M2=> ?_⟩;have aL:=M2;erw[aL,af,ac,aO,aP,aQ,aR,e2,f2,ao,ap,ah,aq,au,ag];simp only at e2 f2 ao ap ah aq au ag;have ak:ac.length<1000:=by have:=f2.len;omega
     have ae:=mv.trans m2;generalize hO:rowO own (j7 rs p) B p=O at hok U M2 ag ah f2;cases O with
     |go B' p'=>
      erw[hok,q1,q2,q3];exists 0,x,af,ac,1,e2,f2.meth _ (),_,0,M2,.inl rfl,0
      refine QG rfl ?_;exists 0,x,_,af,ac,0,e2,T.qw,T.Q8,f2.done,(n:Int),(1),1,1,af,ac,e2,ak;erw[yf (m:=⟨x,db,dg,rs,own⟩) (r:=⟨B',p',n+1,gs,.non⟩) e2 (f2.set_done (k:=n+1)) ao ap ah aq au ag,m3,m4];exact⟨B',p',n+1,.non,1,m3,ae.trans m4,q1,q2,q3,(),.inl [1:U.symm:()]⟩
     |stop d=>
      erw[hok,u,d2,rfl];exists 0,x,af,ac,1,e2,f2.meth _ (),_,0,M2,.inr [_:0],0
      cases hw:QO (.tup [.str u,d2]) with
      |true=>
       simp only [hw] at U;refine Qr (by show(!QO (.tup [.str u,d2]))=UV;rw [hw];rfl) ?_
       exact⟨B,p,n,0,M2,ae,hT,ad,al,hn,.inr [[_:0]:U.symm]⟩
      |false=>
       simp only [hw] at U;refine QG (by show(!QO (.tup [.str u,d2]))=v_;rw [hw];rfl) ?_
       exists 0,x,_,af,ac,0,e2,T.qw,T.Q8,f2.done,(n:Int),(1),1,1,af,ac,e2,ak;erw[yf (m:=⟨x,db,dg,rs,own⟩) (r:=⟨B,p,n+1,gs,.tup [.str u,d2]⟩) e2 (f2.set_done (k:=n+1)) ao ap ah aq au ag,m3,m4];exact⟨B,p,n+1,0,m3,ae.trans m4,hT,ad,al,(),.inr [[_:0]:U.symm]⟩
 ·have:tv≠ .non:=by erw[it,_,_,h,_];rw [h];exact λz=>by cases z
  refine Qr (ud this) ?_;refine k H' mv ?_;rw [<-Z];exact M
noncomputable def emp (z:Str):D:= .tup [.str z,.str ""]
theorem prs_of {H:Hp}:∀{zs:oj Str}{ys:oj V},L2.IsL H (zs.map emp) ys->∃ts:oj o3,ys=ts.map V.ref/\ts.length=zs.length/\∀(i:Nat) (t:o3) (z:Str),ts[i]? =u_ t->zs[i]? =u_ z->H t=u_ (.tup [.str z,.str ""])
 | [],_,h=>by
  cases(show _= [] from h)
  exact⟨[],1,1,λi t z h=>by simp at h⟩
 |y::zs,_,h=>by
  erw[h,v,r,rfl,[t,us,rfl,O,v1,u1,rfl,[rfl,_],v2,U,rfl,[rfl,_],Z],h2];cases(show U= [] from Z)
  erw[prs_of h2,ts,rfl,hl,hi];refine⟨t::ts,1,by rw [ui,hl];rfl,λi q z h1 h3=> ?_⟩
  cases i with
  |zero=>
   cases h1;cases h3;exact O
  |succ j=>exact hi j q z (by simpa using h1) (by simpa using h3)
variable {ys:oj V}
theorem prs_box {A:o3}(e:H A=u_ (.lst ys))(h:L2.IsL H (BX.map emp) ys):PairsL H A (BX.map λz=>(z,V.str "")):=by
 erw[prs_of h,ts,rfl,U,hi];refine⟨ts,e,by rw [U,ua],λi t p h1 h2=> ?_⟩
 rw [uF] at h2;cases O:BX[i]? with
 |none=>rw [O] at h2;cases h2
 |some z=>
  rw [O] at h2;cases h2;exact hi i t z h1 O
noncomputable def B0:Str->D:=λ_=> .str ""
variable {q:o3}
theorem box_new (O:H q=UU):Yq (upd H q (.dK (inrK (BX.map λz=>(z,V.str ""))))) q B0:=by
 refine[λ_=> .str "":?_:λz _=>[1:yq ()]]
 rw [qi];unfold inrK kvB;rw [uJ]
 rfl
theorem B0_tr:Tr B0:=λ_ _=>(by decide+kernel:isT (.str "")=v_)
theorem bx_nodup:((BX.map λz=>(z,V.str "")).map (·.1)).Nodup:=by
 rw [uJ];show(BX.map id).Nodup;rw [GU]
 decide+kernel
theorem putF_le (f:Str)(v:V):∀fs:oj (Str×V),(putF f v fs).length<=fs.length+1
 | []=>uh _
 |(g,x)::r=>by
  unfold putF;by_cases c:g=f
  ·rw [A3 c];simp
  ·rw [A2 c];have:=putF_le f v r;simp only [ui];omega
noncomputable def FLD:oj Str:= ["rows","rule","own","boxes","place","done","given","there"]
theorem mth_fld:∀m∈MTH,m∉FLD:=by decide+kernel
variable {v:V}
theorem fl_new {db dg:o3}(O:(putF "there" .non (putF "given" (.ref dg) (putF "done" (.int 0) (putF "place" (.int 1) (putF "boxes" (.ref db) (putF "own" (.str own) (putF "rule" v (putF "rows" rv [])))))))).length<=20):
  Fl (putF "there" .non (putF "given" (.ref dg) (putF "done" (.int 0) (putF "place" (.int 1) (putF "boxes" (.ref db) (putF "own" (.str own) (putF "rule" v (putF "rows" rv [])))))))) rv v own db dg 1 0 .non:=by
 refine⟨?_,?_,?_,?_,?_,?_,?_,?_,λm hm=> ?_,O⟩
 ·iterate 7 rw [qH,A2 ()]
  rw [qH,A3 rfl]
 ·iterate 6 rw [qH,A2 ()]
  rw [qH,A3 rfl]
 ·iterate 5 rw [qH,A2 ()]
  rw [qH,A3 rfl]
 ·iterate 4 rw [qH,A2 ()]
  rw [qH,A3 rfl]
 ·iterate 3 rw [qH,A2 ()]
  rw [qH,A3 rfl]
 ·iterate 2 rw [qH,A2 ()]
  rw [qH,A3 rfl]
  rfl
 ·rw [qH,A2 (),qH,A3 rfl]
 ·rw [qH,A3 rfl]
 ·have h:=mth_fld m hm
  iterate 8 rw [qH,A2 (λe=>h (by rw [e];decide+kernel))]
  rfl
structure Ini (n:Nat)(H:Hp)(C x dx:o3)(fs:oj (Str×V))(H':Hp):Prop where
 len:fs.length<=n
 at':H' x=u_ (.ins C dx fs)
 kept:∀b o,H b=u_ o->b≠x->H' b=u_ o
theorem Ini.put {x:o3}{fs:oj (Str×V)}(I:Ini n H C x dx fs H')(f:Str)(v:V):Ini (n+1) H C x dx (putF f v fs) (upd H' x (.ins C dx (putF f v fs)))/\Tk H' (upd H' x (.ins C dx (putF f v fs))):=
 ⟨⟨uO (putF_le f v fs) (rP I.len),qi,λb o h n=>by rw [qk n];exact I.kept b o h n⟩,Tk.updI I.at'⟩
theorem Ini.same {x:o3}{fs:oj (Str×V)}(I:Ini n H C x dx fs H')(s:Same H' H2):Ini n H C x dx fs H2:=[I.len:s _ _ I.at':λb o h n=>s _ _ (I.kept b o h n)]
theorem lc_box {K:o0}{b A:o3}{H1:Hp}{te:TE}{tl:L2.St}{Q:VK}(O:∀H,SqT K H b (BX.map V.str))(hA:H1 A=UU)
  (U:∀(z:Str) H (R:VK),z.length<=UY->Same H1 H->(∀y H',Same H H'->Is H' (emp z) y->R y H')->te (u_ (.str z)::tl) H R)
  (hQ:∀H' ys,Same H1 H'->H' A=u_ (.lst ys)->L2.IsL H' (BX.map emp) ys->Q (.ref A) H'):lcGo A (Itt K b) (jt 0) tYes te (UU::tl) H1 Q:=by
 have hl:∀H,L2.IsL H (BX.map D.str) (BX.map V.str):=λH=>IsL.ofStrs λz Z=>yq (by rw [(box_ok Z).1];decide)
 refine lc_data (ds:=BX.map D.str) (λd=>match d with| .str z=>emp z|d=>d) (yq ()) hA (λi H sm hi=>⟨BX.map V.str,(BX.map V.str)[i]'(by simpa using hi),O H,ug _⟩) (λi H x H' d sm hd y=> ?_) (λH sm=>⟨BX.map V.str,O H,by simp⟩) (λd x H R hd sm hx r=> ?_) (λH' ys sm e h=>hQ H' ys sm e ?_)
 ·erw[y,rfl,y];erw[(hl H').get hd,v,e1,e2];have:=y _ (O H');rw [e1] at this;cases this;exact[1:e2]
 ·erw[A8.mp hd,z,_,rfl];erw[hx,rfl,Z];exact U z H R Z sm r
 ·rwa [uJ] at h
theorem isNm_str:∀{d:D},isNm d=v_->∃own,d= .str own/\nm own=v_/\own.length<=100
 | .str z,h=>⟨z,1,h,by
  rcases Uv 24 z.length with h1|h1
  ·rw [show isNm (.str z)=nm z from rfl,nm_len (λq=>by omega)] at h
   cases h
  ·omega⟩
theorem back_rows {n:Nat}:∀{ds:oj D},ds.all (λd=>(Qk n d).isSome)=v_->((ds.filterMap (Qk n)).map λr=>D.str (y8 r))=ds/\(ds.filterMap (Qk n)).length=ds.length/\∀r∈ds.filterMap (Qk n),j3 n 300 r
 | [],_=>⟨1,1,λr h=>by simp at h⟩
 |d::ds,h=>by
  rw [vn,uw] at h;erw[Xr h.1,r,O];erw[back_rows h.2,Z,i2,i3];cases d with
  |str z=>
   obtain⟨h1,h2⟩:=rowOf_ok (show ZL n z=u_ r from O)
   rw [vZ O];refine⟨by rw [uq,h2,Z],by rw [ui,ui,i2],λx U=> ?_⟩
   rcases A5.mp U with rfl|U
   ·exact h1
   ·exact i3 x U
  |_=>cases O
theorem readD_ok:∀{d:D}{rs:oj Rw},Q2 d=u_ rs->Q9 rs/\d=xV rs
 | .tup ds,rs,h=>by
  rw [Xh] at h;split at h
  ·rename_i O
   cases h;simp only [uw,v9] at O;erw[O,[[h1,h2],h3],h4];erw[back_rows h3,U,Z,i3];have e:xV (ds.filterMap (Qk ds.length))= .tup ds:=congrArg D.tup U;exact⟨⟨(),(),λr hr=>by rw [Z];exact i3 r hr,by rwa [e]⟩,e.symm⟩
  ·cases h
inductive sp_minit (C br bn:Addr) (vs:List V) (H:Hp) (Q:VK) (E:XK):Prop
 |mk (x dx:Addr) (v ov:V) (d od:D) (_:vs= [.ref x,v,ov]) (_:H x=u_ (.ins C dx [])) (_:Is H d v) (_:Is H od ov) (_:(Q2 d=UU->∀(e:Addr) (H':Hp),(∀b o,H b=u_ o->b≠x->H' b=u_ o)->E (.ref e) (u_ br) H')) (_:(Q2 d≠UU->isNm od=UV->∀(e:Addr) (H':Hp),(∀b o,H b=u_ o->b≠x->H' b=u_ o)->E (.ref e) (u_ bn) H')) (_:(∀(rs:List Rw) (own:Str),d=xV rs->Q9 rs->od= .str own->nm own=v_->own.length<=100->∀(H':Hp) (db dg:Addr),(∀b o,H b=u_ o->b≠x->H' b=u_ o)->H db=UU->H dg=UU->Ye C H' ⟨x,db,dg,rs,own⟩ (runS rs own [] 300 B0 1 0)->Q .non H'))
theorem ok_minit (T:Tx K mg a)(C:Fx K w mg g a):FnOk P w K mg base (CX1 P w) 6 a.Y6 a.J5 ["self","rule","own"] (sp_minit a.qp g.br g.bn):=by
 have QW:=#[zp,T];have O:=#[ok_rows,T,C];have YC:=#[ok_goon,T,C];refine T.g_Machine_init.F.okX ZE () (λ_ _ _ _ H _ Q E hr h=> ?_)
 erw[h,x,dx,v,ov,d,od,rfl,hx,hv,ho,kR,kN,k];exists _,%[#[Qd,#[qt,16,O,hr.mono (),_,T.g_rule_rows.m,T.g_rule_rows.F.kp,T.g_rule_rows.b,.nil,pass1,#v[pv 1],_,_,_]],#[qI,#[Qz,#[Qq,#[qt,QW,hr.mono (),T.g_is_name,#v[pv 2]]]],%[|#[ps_raise,22,C.x_BadName,_,C.m_BadName,qo,_,_]],qy],#[Qd,pv 1],#[Qd,pv 2],#[Qd,#[qY,#[call_dictP,1,rfl],T.z_dict,boot_dict,#v[#[zw,["box"],[],lcs0,#[Kg,4,#[pe_gR,C.m_BOXES]],(λ_ _ _ _ _ _=>#[qV,(0),(show Vi (["box"]:oj Str) by decide+kernel)]),(λ_ _ _ _ _ _=>#[qG,#v[pv 0,qo]])]]]],#[Qd,qm],#[Qd,qm],#[Qd,#[QK,qf]],#[Qd,Qb]|#[Qa,#[yc,pv 0,T.qw,T.g_Machine_go_on,YC]]]
 exists 7
 refine⟨0,v,d,1,hv,λrs al rv H1 s1 ir=> ?_,λhn e H1 s1=>kR hn e H1 λb o h _=>s1 b o h⟩;exists 0,x,_,dx,[],1,s1 _ _ hx,T.qw,T.yZ,()
 have I0:Ini 0 H a.qp x dx [] H1:=[uh _:s1 _ _ hx:λb o h _=>s1 _ _ h];erw[I0.put "rows" rv,I1,t1];have aA:=ir.mono t1;have htk:∀{n:Nat}{fs:oj (Str×V)}{H':Hp},Ini n H a.qp x dx fs H'->Tk H H':=λ{n fs H'} I=>⟨λb xs e=>I.kept b _ e (λz=>by rw [z,hx] at e;cases e),λb xs e=>⟨_,I.kept b _ e (λz=>by rw [z,hx] at e;cases e)⟩,λb xs e=>⟨_,I.kept b _ e (λz=>by rw [z,hx] at e;cases e)⟩⟩
 refine⟨0,ov,od,1,ho.mono (htk I1),λH3 s3=>[0:?_]⟩;have I3:=I1.same s3;cases ac:isNm od with
 |false=>exact iteT ⟨1,λe=>kN (by rw [al];simp) ac e H3 I3.kept⟩
 |true=>
 refine iteF ?_;erw[readD_ok al,hR,rfl];erw[isNm_str ac,own,rfl,ac,am];cases(show ov= .str own from ho.1)
 have n1:=hR.n1;have k:=k rs own rfl hR rfl ac am;have aB:=aA.mono s3.tk;refine⟨0,0,x,_,dx,0,I3.at',T.qw,T.Wa,by have:=I3.len;omega,?_⟩
 erw[I3.put "rule" v,I4,t4];have aC:=aB.mono t4;refine⟨0,0,x,_,dx,0,I4.at',T.qw,T.XH,by have:=I4.len;omega,?_⟩
 erw[I4.put "own" (.str own),I5,t5];have aD:=aC.mono t5;refine⟨g.boxes,0,C.boxes _,λaO A0 aE=> ?_⟩;refine lc_box (tl:= []) C.boxes aE (λz H6 R hz s6 r=>[0:(sml rfl):λl hl=>r _ _ (qh hl _) (Is.new (ds:= [.str z,.str ""]) ⟨_,0,[1:hz],_,0,[1:yq ()],1⟩ hl)]) λH6 ys s6 e6 i6=> ?_
 refine⟨A0,0,prs_box e6 i6,bx_nodup,(),λdb Z=> ?_⟩
 have I6:=I5.same s6;have s7:Same H6 (upd H6 db (.dK (inrK (BX.map λz=>(z,V.str ""))))):=qh Z _;have I7:=I6.same s7;have b7:=box_new Z;have aF:=(aD.mono s6.tk).mono s7.tk;have nx:∀b o,H b=u_ o->b≠x->b≠db:=λb o h n=>ql (I6.kept b o h n) Z;have U:x≠db:=ql I6.at' Z;refine⟨0,x,_,dx,0,I7.at',T.qw,T.Qu,by have:=I7.len;omega,?_⟩
 erw[I7.put "boxes" (.ref db),I8,t8];have b8:=b7.move t8 (qk U.symm);have aG:=aF.mono t8;refine⟨0,x,_,dx,0,I8.at',T.qw,T.Qj,by have:=I8.len;omega,?_⟩
 erw[I8.put "place" (.int 1),I9,t9];have b9:=b8.move t9 (qk U.symm);have aH:=aG.mono t9;refine⟨0,x,_,dx,0,I9.at',T.qw,T.Q8,by have:=I9.len;omega,?_⟩
 erw[I9.put "done" (.int 0),ad,ao];have aI:=b9.move ao (qk U.symm);have ap:=aH.mono ao;refine[(sml rfl):λdg ae=> ?_];have af:=qh ae (.lst []);have ag:=ad.same af;have aJ:=aI.same af;have aq:=ap.mono af.tk;have ah:dg≠x:=(ql ad.at' ae).symm;refine⟨0,x,_,dx,0,ag.at',T.qw,T.Yt,by have:=ag.len;omega,?_⟩
 erw[ag.put "given" (.ref dg),ak,au];have aK:=aJ.move au (qk U.symm);have aw:=aq.mono au;refine⟨0,x,_,dx,0,ak.at',T.qw,T.qL,by have:=ak.len;omega,?_⟩
 erw[ak.put "there" .non,aa,ax];have aL:=aK.move ax (qk U.symm);have ay:=aw.mono ax;have hl:=aa.len;exists 0,x,dx,0,aa.at',(fl_new ()).meth _ ()
 have aM:Is _ (xV rs) v:=hv.mono (htk aa);have frs:∀{b:o3}{H2:Hp},(∀c o,H c=u_ o->c≠x->H2 c=u_ o)->H2 b=UU->b≠x->H b=none:=λ{b H2} k1 h1 n1=>by
  cases hc:H b with
  |none=>rfl
  |some o=>rw [k1 b o hc n1] at h1;cases h1
 have aN:∀b o,H b=u_ o->b≠x->b≠dg:=λb o h n=>ql (ad.kept b o h n) ae;refine⟨⟨x,db,dg,rs,own⟩,⟨B0,(1),(0),[],.non⟩,1,⟨dx,_,rv,v,.non,[],aa.at',fl_new (),ay,aM,aL,?_,1,1⟩,1,B0_tr,am,hR,Int.le_refl 1,by show(1:Int)<=(rs.length:Int)+1;omega,uU _,λH' m M=>k H' db dg (λb o h n=>m.kept b o (aa.kept b o h n) n (nx b o h n) (aN b o h n)) (frs I6.kept Z U.symm) (frs ad.kept ae ah) M⟩
 rw [qk ah,qk ah,qi]
noncomputable def jZ (z:Str):Bool:=z.cps.toList.all QE
theorem okAll_app {y:Str}(h:jZ z=v_)(k:jZ y=v_):jZ (z++y)=true:=by
 unfold jZ at*;show(z.cps++y.cps).toList.all QE=v_;rw [Hr,UD,h,k];rfl
mutual
noncomputable def lw:D->Bool
 | .str z=>jZ z
 | .tup xs=>lwL xs
 |_=>UV
noncomputable def lwL:oj D->Bool
 | []=>v_
 |x::r=>lw x&&lwL r
end
theorem len_cps (z:Str):z.length=z.cps.toList.length:=by show z.cps.size=_;simp
theorem isT_short (h:jZ z=v_)(O:z.length<=300):isT (.str z)=true:=by
 have U:Qx z=true:=by
  unfold Qx;rwa [ub O,HK]
 have Z:sz (.str z)<=600:=by simp only [sz];omega
 have e2:dp (.str z)<=12:=by simp only [dp];omega
 have e3:good (.str z)=true:=by simp only [good];exact U
 unfold isT;rw [e3,ub Z,ub e2]
 rfl
noncomputable def isP:D->Bool
 | .tup xs=>decide (xs.length=2)
 |_=>UV
noncomputable def isSrc:D->Bool
 | .tup [k,d]=>if eqD k (.str "made")=v_ then isNm d else(eqD k (.str "leaf")||eqD k (.str "rule"))&&isT d
 |_=>UV
noncomputable def okS:D->Bool
 | .tup [k,_]=>okHd k&&decide (dp k<=60)
 |_=>v_
inductive sp_pair (vs:List V) (H:Hp) (Q:VK) (E_:XK):Prop
 |mk (v:_) (d:_) (_:vs= [v]) (_:Is H d v) (_:Q (.bl (isP d)) H)
inductive sp_source (vs:List V) (H:Hp) (Q:VK) (E_:XK):Prop
 |mk (v:_) (d:_) (_:vs= [v]) (_:Is H d v) (_:okS d=v_) (_:∀H',Same H H'->Q (.bl (isSrc d)) H')
inductive sp_cell (K:PySem.W.Frag) (vs:List V) (H:Hp) (Q:VK) (E_:XK):Prop
 |mk (q:Addr) (ns:List Int) (k:Int) (_:vs= [.ref q,.int k]) (_:0<=k) (_:SqL K H q (ns.map V.int)) (_:∀i:Int,Q (.int i) H)
theorem iteB {b:Bool}{A B:Prop}(O:b=v_)(h:A):if b=v_ then A else B:=by rw [A3 O];exact h
theorem iteN {b:Bool}{A B:Prop}(O:b=UV)(h:B):if b=v_ then A else B:=by rw [A2 (by rw [O];exact u9)];exact h
theorem ok_pair (T:Tx K mg a):#[K,1,a.f_is_pair,a.d_is_pair,["value"],sp_pair]:=by
 exists 9,T.g_is_pair,sc_is_pair
 erw[h,v,d,rfl,U,k];exists _,%[|#[qu,#[pe_and,7,#[qz,#[qZ,2,rfl],T.qT,uY,#v[pv 0,#[Q7,.ty "tuple",T.Qy,vf]]],#[pe_one,#[YE,QD,#[qz,Ju,T.yE,uG,#v[pv 0]],qm,qC _]]]]]
 exists 7
 exists 0,v,"tuple",tyD d,zd d,1,U.ty,xU d,0;cases Z:zd d with
 |false=>
  refine iteF ?_;have e:isP d=false:=by cases d<;>first|rfl|simp [zd] at Z
  rwa [e] at k
 |true=>
  obtain⟨xs,rfl⟩:∃xs,d= .tup xs:=by cases d<;>simp [zd] at Z;exact⟨0⟩
  erw[U,p,us,rfl,hp,O];have lu:=O.length;refine iteT [0:.inr ⟨p,us,1,.inr (SqT.of hp),λ_=>[1:?_]⟩];have e:decide (V.int (us.length:Int)=V.int 2)=isP (.tup xs):=by
   simp only [isP,uW];constructor
   ·intro h;have:=V.int.inj h;omega
   ·intro h;rw [lu,h]
    rfl
  rwa [<-e] at k
theorem ok_source (T:Tx K mg a):#[K,3,a.Z6,a.Z2,["value"],sp_source]:=by
 have O:=#[ok_pair,T];have QW:=#[zp,T];have yz:=#[jo,T];exists 9,T.g_is_source,sc_is_source,Z
 erw[h,v,d,rfl,hv,hok,k];exists _,%[#[qI,#[Qz,#[Qq,#[qt,O,Z.mono (),T.g_is_pair,#v[pv 0]]]],%[|#[qu,je]],qy],#[qI,#[qr,#[op_eqM,1,Z.units],#[qQ,qP,pv 0,qm],qo,qC _],%[|#[qu,#[qt,QW,Z.mono (),T.g_is_name,#v[#[qQ,qP,pv 0,qm]]]]],qy]|#[qu,#[pe_and,7,#[YE,#[op_inM,1,Z.units],#[qQ,qP,pv 0,qm],#[qG,#v[qo,qo]],#[w]],#[pe_one,#[qt,yz,Z.mono (),T.g_is_tree,#v[#[qQ,qP,pv 0,qm]]]]]]]
 exists 7
 exists 0,v,0,hv,0;cases hP:isP d with
 |false=>
  refine iteT ?_;have e:isSrc d=false:=by
   cases d with
   |tup xs=>
    match xs,hP with
    | [],_=>rfl
    | [_],_=>rfl
    | [_,_],h=>simp [isP] at h
    |_::_::_::_,_=>rfl
   |_=>rfl
  have:=k H (Same.refl _);rwa [e] at this
 |true=>
  refine iteF ?_;obtain⟨z,e,rfl⟩:∃z e,d= .tup [z,e]:=by
   cases d with
   |tup xs=>
    match xs,hP with
    | [],h=>simp [isP] at h
    | [_],h=>simp [isP] at h
    | [x,y],_=>exact[x:y:1]
    |_::_::_::_,h=>simp [isP] at h
   |_=>simp [isP] at hP
  erw[id hv,p,us,rfl,hp,x1,r1,rfl,h1,x2,r2,rfl,h2,h3];cases(show r2= [] from h3)
  have U:okHd z=v_/\dp z<=60:=by simpa [okS] using hok
  exists 0,p,_,_,0,1,SqT.of hp,1,z,"made",h1,1,(),U.1,U.2,0
  cases c:eqD z (.str "made") with
  |true=>
   refine iteT ⟨0,p,_,_,0,1,SqT.of hp,1,x2,e,1,h2,λH' s'=> ?_⟩;have:=k H' s';simp only [isSrc,c,UT] at this;exact this
  |false=>
   refine iteF ⟨0,p,_,_,0,1,SqT.of hp,1,(sml rfl),λq hq=> ?_⟩;have s1:Same H (upd H q (.tup [.str "leaf",.str "rule"])):=qh hq _;exists z,q,["leaf","rule"],h1.mono s1.tk,1,.inr (SqT.of qi),(),U.1,U.2,0
   have e2:(["leaf","rule"]:oj Str).any (λy=>eqD z (.str y))=(eqD z (.str "leaf")||eqD z (.str "rule")):=by simp
   rw [e2];cases c2:(eqD z (.str "leaf")||eqD z (.str "rule")) with
   |true=>
    refine iteT ⟨0,p,_,_,0,1,SqT.of (s1 _ _ hp),1,x2,e,1,h2.mono s1.tk,λH' s'=> ?_⟩;have:=k H' (s1.trans s');simp only [isSrc,c,c2,HK,UA,if_false] at this;exact this
   |false=>
    refine iteF ?_;have:=k _ s1;simp only [isSrc,c,c2,Ft,UA,if_false] at this;exact this
theorem ok_cell (T:Tx K mg a):#[K,1,a.Xp,a.XI,["script","k"],(sp_cell K)]:=by
 exists 9,T.g_law_cell_at,Wk
 erw[h,q,ns,j,rfl,h0,O,k];exists _,%[#[qI,#[qr,op_lt,pv 1,#[qz,qM,T.yE,uG,#v[pv 0]],qC _],%[|#[qu,#[qQ,yd,pv 0,pv 1]]],qy]|#[qu,qm]]
 exists 7
 exists 0,0,q,0,.inl O,_,0,1,0;refine ite2 (λc=> ?_) (λc=> ?_)
 ·have Z:j<((ns.map V.int).length:Int):=uj c;erw[Y1 h0 Z,v,U];erw[A8.mp (JE U),i,_,rfl];exact⟨0,0,q,_,_,0,1,O,U,k _⟩
 ·exact k 0
theorem str_ext {y:Str}(h:z.cps.toList=y.cps.toList):z=y:=by
 cases z;cases y;simp at h;rw [h]
noncomputable def okN (z:Str):Bool:=(z.cps.toList.map λc=>inS ⟨#[c]⟩ NSG).all id
theorem wE (h:nm z=v_):1<=z.length/\z.length<=24:=by
 by_cases c:1<=(z.length:Int)/\(z.length:Int)<=24
 ·omega
 ·rw [nm_len c] at h;cases h
noncomputable def Nms (zs:oj Str):Prop:=(∀z∈zs,nm z=v_)/\zs.Nodup
noncomputable def Z4 (d:D):Prop:=(∃k e,d= .tup [.str k,e])/\isSrc d=v_/\lw d=v_/\sz d<=306
noncomputable def prD (p:Str×D):D:= .tup [.str p.1,p.2]
noncomputable def PrOk (ps:oj (Str×D)):Prop:=Nms (ps.map (·.1))/\∀p∈ps,Z4 p.2
theorem okN_all (h:okN z=v_):jZ z=true:=by
 unfold jZ;rw [U5];intro c U;have:=List.all_eq_true.mp h _ (A8.mpr [c:U:1]);rw [id,inS_one] at this;have O:∀c∈NSG.cps.toList,QE c=true:=by decide+kernel
 exact O c (uj this)
theorem nm_okN (h:nm z=v_):okN z=true:=by
 have O:=wE h;cases h3:inS ⟨#[z.cps.getD 0 0]⟩ LET with
 |false=>rw [nm_first h3] at h;cases h
 |true=>
  rw [nm_rest () () h3] at h
  exact h
theorem src_made (h:nm z=v_):Z4 (.tup [.str "made",.str z]):=by
 have O:=wE h;refine⟨[_:0],?_,?_,by simp only [sz,szL];show 1+(("made":Str).length+1+(z.length+1+0))<=306;have:("made":Str).length=4:=rfl;omega⟩
 ·show(if eqD (.str "made") (.str "made")=v_ then nm z else(eqD (.str "made") (.str "leaf")||eqD (.str "made") (.str "rule"))&&isT (.str z))=v_
  rw [A3 ()]
  exact h
 ·have:jZ "made"=true:=by decide+kernel
  simp only [lw,lwL,this,okN_all (nm_okN h)]
  rfl
theorem src_leaf {k:Str}{d:D}(O:k="leaf"∨k="rule")(h:isT d=v_)(U:lw d=v_)(hz:sz d<=300):Z4 (.tup [.str k,d]):=by
 have Z:k.length=4:=by rcases O with rfl|rfl<;>rfl
 refine⟨[_:0],?_,?_,by simp only [sz,szL];omega⟩
 ·show(if eqD (.str k) (.str "made")=v_ then isNm d else(eqD (.str k) (.str "leaf")||eqD (.str k) (.str "rule"))&&isT d)=v_
  have e1:eqD (.str k) (.str "made")=false:=by rcases O with rfl|rfl<;>decide+kernel
  have e2:(eqD (.str k) (.str "leaf")||eqD (.str k) (.str "rule"))=true:=by rcases O with rfl|rfl<;>decide+kernel
  rw [e1,e2,h]
  rfl
 ·have:jZ k=true:=by
   rcases O with rfl|rfl<;>decide+kernel
  simp only [lw,lwL,this,U]
  rfl
theorem src_okS {d:D}(h:Z4 d):okS d=true:=by
 erw[h,[k,e,rfl],_];simp [okS,okHd,trD,dp]
theorem Jd (h:z.length<=16000000):Is H (.str z) (.str z):=[1:fits h]
theorem ge_trans:∀a b c:oj Nat,Vl b a=UV->Vl c b=UV->Vl c a=UV
 | [],_,[],_,_=>rfl
 | [],_,_::_,_,_=>rfl
 |x::a,[],_,h,_=>by simp [Vl] at h
 |x::a,y::b,[],_,h=>by simp [Vl] at h
 |x::a,y::b,z::c,h1,h2=>by
  simp only [Vl,HZ,Fi,decide_eq_false_iff_not,Ut,ne_eq] at*;exists ()
  by_cases e:z=x
  ·refine .inr (ge_trans a b c ?_ ?_)
   ·rcases h1.2 with h|h
    ·omega
    ·exact h
   ·rcases h2.2 with h|h
    ·omega
    ·exact h
  ·exact .inl e
theorem ge_anti:∀a b:oj Nat,Vl a b=UV->Vl b a=UV->a=b
 | [],[],_,_=>rfl
 | [],_::_,h,_=>by simp [Vl] at h
 |_::_,[],_,h=>by simp [Vl] at h
 |x::a,y::b,h1,h2=>by
  simp only [Vl,HZ,Fi,decide_eq_false_iff_not,Ut,ne_eq] at*;have e:x=y:=by omega
  subst e;rw [ge_anti a b (by rcases h1.2 with h|h;exact absurd rfl h;exact h) (by rcases h2.2 with h|h;exact absurd rfl h;exact h)]
theorem rising_pw:∀(l:oj Str) (p:Str),risingS p l=v_->(p::l).Pairwise (λa b=>Vl b.cps.toList a.cps.toList=UV)
 | [],p,_=>List.pairwise_singleton ..
 |x::r,p,h=>by
  have h':(!Vl x.cps.toList p.cps.toList&&risingS x r)=true:=h;rw [uw,TV] at h';have U:=rising_pw r x h'.2;refine List.pairwise_cons.mpr [λb O=> ?_:U];rcases A5.mp O with rfl|O
  ·exact h'.1
  ·exact ge_trans _ _ _ h'.1 (List.rel_of_pairwise_cons U O)
variable {l:oj Str}
theorem sorted_pw (h:Gj l=v_):l.Pairwise (λa b=>Vl b.cps.toList a.cps.toList=UV):=by
 cases l with
 |nil=>exact tX
 |cons x r=>exact rising_pw r x h
theorem sorted_one {m:oj Str}(h1:Gj l=v_)(h2:Gj m=v_)(h:l.Perm m):l=m:=
 RH (λa b _ _ x y=>str_ext (ge_anti _ _ y x)) (sorted_pw h1) (sorted_pw h2) h
noncomputable def qD (ps:oj (Str×D))(z:Str):D:=((ps.find? λp=>decide (p.1=z)).map (·.2)).getD .non
noncomputable def zr (vs:oj (Str×V))(z:Str):V:=(valV (inrK vs) (UZ z)).getD .non
theorem Xc (p:Str×V)(r:oj (Str×V)):inrK (p::r)=(UZ p.1,p.2)::inrK r:=rfl
theorem look2 {H:Hp}{z:Str}:∀{ps:oj (Str×D)}{vs:oj (Str×V)},vs.map (·.1)=ps.map (·.1)->IsL H (ps.map (·.2)) (vs.map (·.2))->z∈ps.map (·.1)->valV (inrK vs) (UZ z)=u_ (zr vs z)/\Is H (qD ps z) (zr vs z)
 | [],_,_,_,h=>nomatch h
 |p::ps,[],e,_,_=>by simp at e
 |p::ps,v::vs,e,hi,hz=>by
  simp only [uq,UE] at e;erw[hi,u,r,e2,h1,h2];simp only [uq,UE] at e2;erw[e2,rfl,rfl];by_cases c:p.1=z
  ·have O:v.1=z:=e.1.trans c;have U:valV (inrK (v::vs)) (UZ z)=u_ v.2:=by
    rw [Xc];exact QL (by rw [O])
   have Z:qD (p::ps) z=p.2:=by simp [qD,uS,c]
   unfold zr;rw [U,Z];exact[1:h1]
  ·have O:¬v.1=z:=λq=>c (e.1.symm.trans q);have U:valV (inrK (v::vs)) (UZ z)=valV (inrK vs) (UZ z):=by
    rw [Xc];exact QF (λq=>O (Ug q))
   have Z:qD (p::ps) z=qD ps z:=by simp [qD,uS,c]
   have aa:z∈ps.map (·.1):=by
    rcases A5.mp hz with h|h
    ·exact absurd h.symm c
    ·exact h
   have ih:=look2 e.2 h2 aa;unfold zr at*;rw [U,Z];exact ih
theorem look0 {z:Str}:∀{vs:oj (Str×V)},z∉vs.map (·.1)->valV (inrK vs) (UZ z)=UU
 | [],_=>rfl
 |v::vs,h=>by
  rw [Xc,QF (λq=>h (by rw [<-Ug q];exact uf ..))]
  exact look0 λm=>h (uc _ m)
theorem re_map:∀{ps:oj (Str×D)},(ps.map (·.1)).Nodup->(ps.map (·.1)).map (λz=>(z,qD ps z))=ps
 | [],_=>rfl
 |p::ps,h=>by
  have h':=List.nodup_cons.mp h;have O:qD (p::ps) p.1=p.2:=by simp [qD,uS]
  rw [uq,uq,O]
  congr 1
  refine Eq.trans (U3 λz U=> ?_) (re_map h'.2);have:¬p.1=z:=λq=>h'.1 (by show p.1∈_;rwa [q])
  simp [qD,uS,this]
noncomputable def tabOf (ps:oj (Str×D))(ms:oj Str):oj (Str×D):=ms.map λz=>(z,qD ps z)
theorem Kw (ps:oj (Str×D))(O:oj Str):(tabOf ps O).map (·.1)=O:=by
 unfold tabOf;rw [uJ];exact(U3 λ_ _=>rfl).trans (GU O)
theorem tab_perm {ps:oj (Str×D)}{O:oj Str}(hn:(ps.map (·.1)).Nodup)(h:O.Perm (ps.map (·.1))):(tabOf ps O).Perm ps:=by
 have:=h.map λz=>(z,qD ps z);rwa [re_map hn] at this
noncomputable def yw (C:o3)(H:Hp)(x:o3)(qs:oj (Str×D)):Prop:=∃(dx d:o3) (o:Obj) (vs:oj (Str×V)),H x=u_ (.ins C dx [("by_name",.ref d)])/\H d=u_ (.frz o (.dK (inrK vs)))/\vs.map (·.1)=qs.map (·.1)/\L2.IsL H (qs.map (·.2)) (vs.map (·.2))
variable {qs:oj (Str×D)}
theorem yw.same {x:o3}(h:yw C H x qs)(s:Same H H'):yw C H' x qs:=by
 erw[h,dx,d,o,vs,h1,h2,h3,h4];exact⟨dx,d,o,vs,s _ _ h1,s _ _ h2,h3,h4.mono s.tk⟩
noncomputable def Qn (qs:oj (Str×D)):Prop:=PrOk qs/\Gj (qs.map (·.1))=v_/\qs.length<=60
inductive sp_init (C:Addr) (vs:List V) (H:Hp) (Q:VK) (E_:XK):Prop
 |mk (x dx t:Addr) (ps:List (Str×D)) (us:List V) (_:vs= [.ref x,.ref t]) (_:H x=u_ (.ins C dx [])) (_:H t=u_ (.tup us)) (_:L2.IsL H (ps.map prD) us) (_:PrOk ps) (_:ps.length<=60) (_:∀(qs:List (Str×D)) (H':Hp),(∀b o,H b=u_ o->b≠x->H' b=u_ o)->yw C H' x qs->Qn qs->qs.Perm ps->Q .non H')
theorem Nms.perm {m:oj Str}(h:Nms m)(p:l.Perm m):Nms l:=[λz O=>h.1 z (p.mem_iff.mp O):(p.nodup_iff).mpr h.2]
theorem dat_of {ps:oj (Str×D)}{d:D}(hn:(ps.map (·.1)).Nodup)(h:(z,d)∈ps):qD ps z=d:=by
 induction ps with
 |nil=>cases h
 |cons p r Z=>
  have O:=List.nodup_cons.mp hn;rcases A5.mp h with h|h
  ·subst h;simp [qD,uS]
  ·have:¬p.1=z:=λq=>O.1 (by show p.1∈_;rw [q];exact A8.mpr [_:h:1])
   have U:=Z O.2 h
   simpa [qD,uS,this] using U
theorem dat_mem {ps:oj (Str×D)}(hn:(ps.map (·.1)).Nodup)(h:z∈ps.map (·.1)):(z,qD ps z)∈ps:=by
 erw[A8.mp h,p,O,rfl];rw [dat_of hn (show(p.1,p.2)∈ps from O)]
 exact O
theorem dat_perm {ps:oj (Str×D)}(hn:(ps.map (·.1)).Nodup)(O:qs.Perm ps)(h:z∈ps.map (·.1)):qD qs z=qD ps z:=by
 have U:(qs.map (·.1)).Nodup:=((O.map _).nodup_iff).mpr hn;exact dat_of U (O.mem_iff.mpr (dat_mem hn h))
theorem inrK_snoc (vs:oj (Str×V))(z:Str)(v:V):inrK (vs++ [(z,v)])=inrK vs++ [(UZ z,v)]:=by
 unfold inrK;rw [ur]
 rfl
theorem mapG {α β:Type}(f:α->β){l:oj α}{i:Nat}(h:i<l.length):(l.map f)[i]? =u_ (f l[i]):=by
 rw [uF,ug h]
 rfl
theorem take1 {α:Type}{l:oj α}{i:Nat}(h:i<l.length):l.take (i+1)=l.take i++ [l[i]]:=by
 rw [vq,ug h]
 rfl
theorem ok_init (T:Tx K mg a):#[K,4,a.jd,a.J7,["self","sources"],(sp_init a.qF)]:=by
 have QW:=#[zp,T];have U:=#[ok_source,T];refine T.g_Project_init.F.ok yH () (λ_ _ _ _ H vs Q E hr h=> ?_)
 erw[h,x,dx,t,ps,us,rfl,hx,ht,ap,hok,aL,k];have hs:=uA;exists _,%[#[qE,2,(2),4,yH.nd,rfl,VL rfl,Zu,_,_],#[jV,#[WR,pv 1],#[pg_tup,6,rfl,yu #[qV,(3),yH.nd] (yu #[qV,(4),yH.nd] wk),_,_],%[#[qI,#[Qz,#[Qq,#[qt,QW,hr.mono (),T.g_is_name,#v[pv 3]]]],%[|Y2],qy],#[qI,#[Qz,#[Qq,#[qt,U,hr.mono (),T.g_is_source,#v[pv 4]]]],%[|Y2],qy],#[qI,#[pt_cmp,6,#[pc_din,5,Q5 hr,pv 3,pv 2],_],%[|Y2],qy],#[qI,#[qr,QD,#[qz,call_lenD,T.yE,uG,#v[pv 2]],#[kG,T.m_MOST_NAMES],qC _],%[|Y2],qy]|#[xz,9,Q5 hr,pv 2,pv 3,pv 4,rfl]]]|#[Qd,#[qY,#[call_dictF,1,rfl],T.z_dict,boot_dict,#v[#[zw,["name","by_name"],[2],lcsN (qj yY) ["self","sources","by_name","name","source"],#[KA,4,#[qz,#[call_sortedD,1,rfl],T.z_sorted,boot_sorted,#v[pv 2]]],(λ_ _ _ _ _ _=>#[qV,(0),(show Vi (["name","by_name"]:oj Str) by decide+kernel)]),(λ_ _ _ _ _ _=>#[qG,#v[pv 0,#[QJ,pv 1,pv 0]]])]]]]]
 exists 7
 intro d hd;have s1:Same H (upd H d (.dK [])):=qh hd _;have aM:d≠x:=λe=>by rw [e,hx] at hd;cases hd
 have aq:=ap.length;rw [ua] at aq;refine⟨0,t,1,[_:SqT.of (s1 _ _ ht)],zA (K:=K) (a:=t) (xs:=us) (λi σ H'=>∃(vs:oj (Str×V)) (nv sv:om V),σ= [u_ (.ref x),u_ (.ref t),u_ (.ref d),nv,sv]/\Same H H'/\H' d=u_ (.dK (inrK vs))/\vs.map (·.1)=(ps.take i).map (·.1)/\L2.IsL H' ((ps.take i).map (·.2)) (vs.map (·.2)))
  ⟨[],UU,UU,1,s1,qi,1,1⟩ (λi σ H' _ ⟨_,_,_,_,sm,_⟩=>SqT.of (sm _ _ ht)) ?_ ?_⟩
 ·rintro i y σ H' hi ⟨vs,nv,sv,rfl,sm,ac,hk,hv⟩;have aN:i<us.length:=(Aa.mp hi).1;have Z:i<ps.length:=by omega
  erw[ap.get (mapG prD Z),v,e1,e2];rw [hi] at e1;cases e1;have au:=hok.2 _ (uQ Z);have aB:nm ps[i].1=true:=hok.1.1 _ (A8.mpr [_:uQ Z:1]);erw[au,[sk,sd,aO],aC,aP];erw[e2,p,ws,rfl,hp,w1,r1,rfl,[rfl,hz],w2,r2,rfl,h2,h3];cases(show r2= [] from h3)
  have aD:=sm _ _ hp;exists p,0,SqT.of aD,1,_,0,_,0,1;refine⟨0,_,.str ps[i].1,1,[1:hz],λH3 s3=>⟨0,iteN (by simp [isNm,aB]) ?_⟩⟩
  have aw:Is H3 ps[i].2 w2:=h2.mono (sm.trans s3).tk;refine⟨0,w2,ps[i].2,1,aw,src_okS (hok.2 _ (uQ Z)),λH4 s4=>⟨0,iteN (by rw [aC];rfl) ?_⟩⟩
  have af:=s3.trans s4;have ad:=af _ _ ac;have nk:ps[i].1∉vs.map (·.1):=by
   rw [hk];have aa:=hok.1.2;have e:ps.map (·.1)=(ps.take i).map (·.1)++ps[i].1::(ps.drop (i+1)).map (·.1):=by
    rw [<-uq (f:=λx:Str×D=>x.1),<-ve Z,<-ur,H_]
   rw [e,TU] at aa;exact λm=>aa.2.2 _ m _ (uf ..) rfl
  have ev:=look0 nk;have aE:vs.length=i:=by
   have:=congrArg VP hk;rw [ua,ua,vy] at this;omega
  refine⟨0,0,d,0,DGet.k (k:=UZ ps[i].1) ad,0,iteN (by rw [ev];rfl) ?_⟩
  refine⟨0,d,0,ad,1,0,iteN (ud λq=> ?_) ?_⟩
  ·have:=V.int.inj q;unfold inrK at this;rw [ua] at this;omega
  ·have aF:(inrK vs).length<sizeLine:=by
    unfold inrK;rw [ua];omega
   exists 0,0,0,d,0,DPut.k (k:=UZ ps[i].1) ad aF;have tk:Tk H4 (upd H4 d (.dK (putK (inrK vs) (UZ ps[i].1) w2))):=Tk.updD ad;refine⟨vs++ [(ps[i].1,w2)],_,0,?_,?_,?_,?_⟩
   ·intro b o e;rw [qk (ql e hd)];exact(sm.trans af) _ _ e
   ·rw [qi,putK_new _ ev,inrK_snoc]
   ·rw [take1 Z,ur,ur,hk]
    rfl
   ·rw [take1 Z,ur,ur];exact(((hv.mono af.tk).mono tk)).append (L2.IsL.one ((aw.mono s4.tk).mono tk))
 ·rintro σ H1 ⟨vs,nv,sv,rfl,sm,ac,hk,hv⟩;rw [aq,U6] at hk hv;have aE:vs.length=ps.length:=by
   have:=congrArg VP hk
   rwa [ua,ua] at this
  have ag:(inrK vs).map (·.1)=(ps.map (·.1)).map Sum.inr:=by rw [wF,hk]
  refine⟨0,d,inrK vs,ps.map (·.1),1,ac,ag,by rw [ua];omega,λms q O ah hq=>⟨q,1,[_:SqL.of qi],λA0 ak=> ?_⟩⟩
  have s2:Same H1 (upd H1 q (.lst (ms.map V.str))):=qh hq _;have aQ:ms.length=ps.length:=by
   have:=O.length_eq
   rwa [ua] at this
  refine lc_strs (K:=K) (tl:= [u_ (.ref d)]) (λi ys H'=>∃ts:oj o3,ys=ts.map V.ref/\ts.length=i/\Same H1 H'/\H' A0=u_ (.lst ys)/\∀(j:Nat) (t:o3) (z:Str),ts[j]? =u_ t->ms[j]? =u_ z->H' t=u_ (.tup [.str z,zr vs z])) qi () ak
   ⟨[],1,1,s2.trans (qh ak _),qi,λj t z h=>by simp at h⟩ ?_ ?_
  ·rintro i z ys H' hz ⟨ts,rfl,ae,s3,hA,al⟩ _ _ _ R r;have aG:z∈ps.map (·.1):=O.mem_iff.mp (v5 hz);have lk:=look2 hk hv aG;refine⟨0,0,0,d,zr vs z,1,?_,(sml rfl),λt2 am=> ?_⟩
   ·have:=DGet.k (k:=UZ z) (s3 _ _ ac);rwa [lk.1] at this
   ·have s4:=qh am (.tup [V.str z,zr vs z]);have aH:t2≠A0:=λe=>by rw [e,hA] at am;cases am
    refine r _ _ (s4 _ _ hA) (s4 _ _ (by assumption)) ⟨ts++ [t2],by rw [ur];rfl,by rw [uu,ae];rfl,?_,qi,?_⟩
    ·intro b o e;have nb:b≠A0:=ql (s2 _ _ e) ak;rw [qk nb];exact s4 _ _ (s3 _ _ e)
    ·intro j t z' h1 h2;rcases Uv j i with hj|hj
     ·rw [Ur ()] at h1
      have:=al j t z' h1 h2;have nb:t≠A0:=λe=>by rw [e,hA] at this;cases this
      rw [qk nb];exact s4 _ _ this
     ·have aI:j=i:=by
       have:=(Aa.mp h1).1;rw [uu] at this;have:j<ts.length+1:=this;omega
      subst aI;rw [hz] at h2;cases h2;rw [Uo (),ae,Nat.sub_self] at h1
      cases h1;rw [qk aH];exact qi
  ·rintro ys H2 ⟨ts,rfl,ae,s3,hA,al⟩ _;have aa:=hok.1.2;have aJ:ms.Nodup:=O.nodup_iff.mpr aa;have ax:(ms.map λz=>(z,zr vs z)).map (·.1)=ms:=by
    rw [uJ];exact(U3 λ_ _=>rfl).trans (GU ms)
   refine⟨A0,ms.map λz=>(z,zr vs z),1,⟨ts,hA,by rwa [ua],λj t p h1 h2=> ?_⟩,by rwa [ax],by rw [ua];omega,λq2 o ao=> ?_⟩
   ·rw [uF] at h2;cases h3:ms[j]? with
    |none=>rw [h3] at h2;cases h2
    |some z=>
     rw [h3] at h2;cases h2;exact al j t z h1 h3
   ·have s4:=qh ao (.frz o (.dK (inrK (ms.map λz=>(z,zr vs z)))));have ay:H1 x=u_ (.ins a.qF dx []):=sm _ _ hx;have aA:=s4 _ _ (s3 _ _ ay);have nq:q2≠x:=λe=>by rw [e,s3 _ _ ay] at ao;cases ao
    refine⟨0,x,a.qF,dx,[],1,aA,T.Ya,T.Q4,(by show 0<1000;decide),?_⟩
    refine k (tabOf ps ms) _ ?_ ⟨dx,q2,o,ms.map λz=>(z,zr vs z),qi,by rw [qk nq];exact qi,by rw [ax,Kw],?_⟩ ⟨[?_:?_],by rwa [Kw],by unfold tabOf;rw [ua];omega⟩ (tab_perm aa O)
    ·intro b ob e nb;rw [qk nb];exact s4 _ _ (s3 _ _ (sm _ _ e))
    ·have tk:Tk H1 (upd (upd H2 q2 (.frz o (.dK (inrK (ms.map λz=>(z,zr vs z)))))) x (.ins a.qF dx (putF "by_name" (.ref q2) []))):=(s3.trans s4).tk.trans (Tk.updI aA);have aK:∀l:oj Str,(∀z∈l,z∈ps.map (·.1))->L2.IsL H1 ((tabOf ps l).map (·.2)) ((l.map λz=>(z,zr vs z)).map (·.2)):=by
      intro l
      induction l with
      |nil=>exact λ_=>rfl
      |cons z r ih=>exact λh=>⟨_,0,(look2 hk hv (h z (uf ..))).2,ih λy hy=>h y (uc _ hy)⟩
     exact(aK ms λz hz=>O.mem_iff.mp hz).mono tk
    ·rw [Kw];exact hok.1.perm O
    ·intro p hp;exact hok.2 p ((tab_perm aa O).mem_iff.mp hp)
theorem fld_by:Vj ("by_name":Str) [(("by_name":Str),v)]=u_ v:=by simp [Vj]
theorem zL:Vj ("source_of":Str) [(("by_name":Str),v)]=none:=by
 have:(("source_of":Str)=="by_name")=false:=by decide+kernel
 simp [Vj,this]
inductive ZH (C:Addr) (vs:List V) (H:Hp) (Q:VK) (E_:XK):Prop
 |mk (x:Addr) (z:Str) (qs:List (Str×D)) (_:vs= [.ref x,.str z]) (_:yw C H x qs) (_:∀v:V,(z∈qs.map (·.1)->Is H (qD qs z) v)->(z∉qs.map (·.1)->v= .non)->Q v H)
theorem wV (T:Tx K mg a):#[K,1,a.Yy,a.YH,["self","name"],(ZH a.qF)]:=by
 refine T.g_Project_source_of.F.ok J0 () (λ_ _ _ _ H vs Q E U h=> ?_)
 erw[h,x,z,qs,rfl,[dx,d,o,vs,Z,hd,O,hv],k];exists _,%[|#[qu,#[pe_dget1,7,Q5 U,#[qN,5,pv 0,rfl],pv 1,⟨1,1,1,1⟩]]]
 exists 7
 exists 0,x,a.qF,dx,_,0,Z,T.Ya,T.Q4,fld_by,d,1,.inl [_:.inr [o:hd]],0,_,.inl ⟨_,UZ z,.inr [o:hd],1,1⟩;refine k _ (λc=> ?_) λc=> ?_
 ·exact(look2 O hv c).2
 ·rw [look0 (by rwa [O])]
  rfl
noncomputable def rowT (zs:oj Str):D:= .tup (zs.map D.str)
noncomputable def rowG (acc:oj Str):oj Str->oj Str
 | []=>acc
 |z::r=>if isT (rowT (acc++ [z]))=v_ then rowG (acc++ [z]) r else acc
inductive WV (K:PySem.W.Frag) (vs:List V) (H:Hp) (Q:VK) (E_:XK):Prop
 |mk (L:Addr) (zs:List Str) (_:vs= [.ref L]) (_:H L=u_ (.lst (zs.map V.str))) (_:(∀z∈zs,z.length<=100)) (_:zs.length<=100) (_:∀(v:V) (H':Hp),Same H H'->Is H' (rowT (rowG [] zs)) v->Q v H')
variable {xs:oj V}{Q:VK}
theorem cat1 {K:o0}{a:o3}{x:V}(ha:H a=u_ (.tup xs))(O:xs.length+1<=UY)(k:∀p H',Same H H'->H' p=u_ (.tup (xs++ [x]))->Q (.ref p) H'):
  [x].length<=UY/\∀q,H q=UU->rCatG K (.ref a) (.ref q) (upd H q (.tup [x])) Q:=by
 refine[sml rfl:λq U=> ?_];have s1:Same H (upd H q (.tup [x])):=qh U _;refine⟨a,q,xs,[x],1,1,SqT.of (s1 _ _ ha),SqT.of qi,O,λe=> ?_,(λ_ e=>by cases e),λ_ _ p Z=> ?_⟩
 ·refine k q _ s1 ?_;rw [e];exact qi
 ·exact k p _ (s1.trans (qh Z _)) qi
variable {zs:oj Str}{p:o3}
theorem is_row (h:H p=u_ (.tup (zs.map V.str)))(U:∀z∈zs,z.length<=100):Is H (rowT zs) (.ref p):=by
 have O:∀(zs:oj Str),(∀z∈zs,z.length<=100)->IsL H (zs.map D.str) (zs.map V.str):=by
  intro zs
  induction zs with
  |nil=>exact λ_=>rfl
  |cons z r Z=>
   intro h;exact⟨_,0,⟨1,fits (by have:=h z (uf ..);omega)⟩,Z λy hy=>h y (uc _ hy)⟩
 exact⟨p,0,h,O zs U⟩
theorem rowG_mem:∀(zs O:oj Str) (z:Str),z∈rowG O zs->z∈O∨z∈zs
 | [],O,z,h=> .inl h
 |y::r,O,z,h=>by
  unfold rowG at h;split at h
  ·rcases rowG_mem r _ z h with h|h
   ·rcases A7.mp h with h|h
    ·exact .inl h
    ·exact .inr (by rw [A6.mp h];exact uf ..)
   ·exact .inr (uc _ h)
  ·exact .inl h
inductive sp_looked (C:Addr) (vs:List V) (H:Hp) (Q:VK) (E_:XK):Prop
 |mk (x t:Addr) (kind text:Str) (qs:List (Str×D)) (_:vs= [.ref x,.ref t]) (_:yw C H x qs) (_:Qn qs) (_:H t=u_ (.tup [.str kind,.str text])) (_:text.length<=1000) (_:((kind="has"/\Q (.str (if text∈qs.map (·.1) then "yes" else "no")) H)∨(kind="names"/\∀(v:V) (H':Hp),Same H H'->Is H' (rowT (rowG [] ((qs.map (·.1)).filter λz=>VQ z text))) v->Q v H')))
theorem has_key {vs:oj (Str×V)}(O:vs.map (·.1)=qs.map (·.1))(hi:L2.IsL H (qs.map (·.2)) (vs.map (·.2)))(z:Str):(valV (inrK vs) (UZ z)).isSome=decide (z∈qs.map (·.1)):=by
 by_cases c:z∈qs.map (·.1)
 ·rw [(look2 O hi c).1,ub c]
  rfl
 ·rw [look0 (by rw [O];exact c),ud c]
  rfl
theorem ok_longest (T:Tx K mg a):#[K,3,a.XL,a.XQ,["names"],(WV K)]:=by
 have yz:=#[jo,T];exists 9,T.g_longest_row,y7
 erw[h,L,zs,rfl,hL,hz,hn,k];have hs:=uA;exists _,%[#[qE,(1),y7.nd,#[qG,qf]],#[jV,#[KA,4,pv 0],#[qV,(2),y7.nd],%[#[qI,#[Qz,#[Qq,#[qt,yz,hr.mono (),T.g_is_tree,#v[#[qX,kC,pv 1,#[qG,#v[pv 2]]]]]]],%[|ps_break],qy]|#[qE,(1),y7.nd,#[qX,kC,pv 1,#[qG,#v[pv 2]]]]]]|#[qu,pv 1]]
 exists 7
 refine[(sml rfl):λq hq=> ?_];have s1:Same H (upd H q (.tup [])):=qh hq _;refine⟨0,L,1,[_:SqL.of (s1 _ _ hL)],for_list (K:=K) (a:=L) (xs:=zs.map V.str) (λi σ H'=>∃(row:oj Str) (p:o3) (kv:om V),σ= [u_ (.ref L),u_ (.ref p),kv]/\H' p=u_ (.tup (row.map V.str))/\Same H H'/\rowG row (zs.drop i)=rowG [] zs/\row.length<=i/\∀z∈row,z∈zs)
  ⟨[],q,UU,1,qi,s1,1,uh _,λz h=>nomatch h⟩ (λi σ H' _ ⟨_,_,_,_,_,s2,_⟩=>SqL.of (s2 _ _ hL)) ?_ ?_⟩
 ·rintro i x σ H' hi ⟨row,p,kv,rfl,Z,s2,O,hl,hm⟩;have U:i<zs.length:=by
   have:=(Aa.mp hi).1
   simpa using this
  obtain rfl:x=V.str zs[i]:=by
   rw [uF,ug U] at hi;exact(uH hi).symm
  have ed:zs.drop i=zs[i]::zs.drop (i+1):=ve U;rw [ed] at O;rw [show rowG row (zs[i]::zs.drop (i+1))=if isT (rowT (row++ [zs[i]]))=v_ then rowG (row++ [zs[i]]) (zs.drop (i+1)) else row from rfl] at O
  have aa:∀z∈row++ [zs[i]],z∈zs:=λz h=>by
   rcases A7.mp h with h|h
   ·exact hm z h
   ·rw [A6.mp h];exact uQ U
  have hsz:(row.map V.str).length+1<=sizeLine:=by rw [ua];omega
  have em:row.map V.str++ [V.str zs[i]]=(row++ [zs[i]]).map V.str:=by simp
  refine⟨0,0,cat1 Z hsz λp2 H3 s3 h3=>⟨_,rowT (row++ [zs[i]]),1,is_row (by rw [h3,em]) λz h=>hz z (aa z h),λH4 s4=>[0:?_]⟩⟩
  cases hT:isT (rowT (row++ [zs[i]])) with
  |false=>
   rw [A2 (by rw [hT];exact u9)] at O
   refine iteT [0:k _ H4 ((s2.trans s3).trans s4) ?_];rw [<-O];exact is_row (s4 _ _ (s3 _ _ Z)) λz h=>hz z (hm z h)
  |true=>
   rw [A3 hT] at O;refine iteF [0:0:cat1 (s4 _ _ (s3 _ _ Z)) hsz λp5 H5 s5 h5=> ?_];exact⟨row++ [zs[i]],p5,0,by rw [h5,em],((s2.trans s3).trans s4).trans s5,O,by rw [uu];show row.length+1<=i+1;omega,aa⟩
 ·rintro σ H' ⟨row,p,kv,rfl,Z,s2,O,hl,hm⟩;refine[0:k _ H' s2 ?_];rw [ua,List.drop_length] at O;rw [<-O];exact is_row Z λz h=>hz z (hm z h)
theorem ok_looked (T:Tx K mg a):#[K,4,a.Yz,a.YF,["self","ask"],(sp_looked a.qF)]:=by
 have kY:=#[ok_longest,T];refine T.g_Project_looked_up.F.ok JZ () (λ_ _ _ _ H vs Q E hr h=> ?_)
 erw[h,x,t,kind,text,qs,rfl,[dx,d,o,vs,hx,hd,hk,hv],U,Z,ad,h];have hs:=uA;exists _,%[#[qI,#[qr,QD,#[qQ,qP,pv 1,qm],qo,qC _],%[|#[qu,#[yb,#[pt_cmp,6,#[pc_din,5,Q5 hr,#[qQ,qP,pv 1,qm],#[qN,5,pv 0,rfl]],_],qo,qo]]],qy]|#[qu,#[qt,kY,hr.mono (),T.g_longest_row,#v[#[zw,2,["name","ask"],(1),[1],9,lcsN (qj QP) ["self","ask"],rfl,#[pi_dicF,4,#[qN,5,pv 0,rfl]],(λ_ _ _ _ _ _=>#[qV,(0),(show Vi (["name","ask"]:oj Str) by decide+kernel)]),(λ_ _ _ _ _ _=>#[pif_one,3,#[Qq,#[pe_bmK,1,K,11,rfl,uP,PySem.F.slot_str_startswith,PySem.F.type_str_startswith,mt_starts,pv 0,#v[#[qQ,#[ix_tupK,1,K,rfl],pv 1,qm]],_,_,_,_,_]]]),(λ_ _ _ _ _ _=>(pv 0)),_]]]]]
 exists 7
 exists 0,t,_,_,0,1,SqT.of Z,1,1,0;rcases h with⟨rfl,k⟩|⟨rfl,k⟩
 ·refine iteB (ub rfl) ?_;exists 0,t,_,_,0,1,SqT.of Z,1,0,x,a.qF,dx,_,0,hx,T.Ya,T.Q4,fld_by,d,0,.inl ⟨_,UZ text,.inr [o:hd],1,1⟩,0;rw [has_key hk hv];by_cases c:text∈qs.map (·.1)
  ·rw [A3 c] at k;exact iteB (ub c) k
  ·rw [A2 c] at k;exact iteN (ud c) k
 ·refine iteN () ?_
  have O:(inrK vs).map (·.1)=(qs.map (·.1)).map Sum.inr:=by rw [wF,hk]
  refine⟨0,x,a.qF,dx,_,0,hx,T.Ya,T.Q4,fld_by,d,o,0,hd,λA0 aa=> ?_⟩;refine lc_dicF (tl:= [u_ (.ref t)]) (λz=>VQ z text) V.str hd O (by rw [ua];have:=U.2.2;omega) aa (λz H1 R hz s1 r=> ?_) (λz H1 R hz s1 r=>[0:r]) λH1 s1 h1=> ?_
  ·exact⟨0,1,0,t,_,_,0,1,SqT.of (s1 _ _ Z),1,z,text,1,1,0,r⟩
  ·refine⟨A0,0,h1,λz hz=> ?_,?_,λv H2 s2 ac=>k v H2 (s1.trans s2) ac⟩
   ·have:=wE (U.1.1.1 z (A9.mp hz).1);omega
   ·have:=Uj (λz=>VQ z text) (qs.map (·.1));rw [ua] at this;have:=U.2.2;omega
noncomputable def wu:D->Bool
 | .non=>v_
 |_=>UV
noncomputable def X7:D->D
 | .tup [_,d]=>d
 |d=>d
noncomputable def Xv (d:D):Prop:=d= .non∨isT d=v_
noncomputable def Gd (d:D):Prop:=good d=v_/\dp d<=20
theorem gd_flt:∀z∈(["kind","big","told","silent","long","name"]:oj Str),good (flt z)=true:=by decide+kernel
theorem gd_f (h:z∈(["kind","big","told","silent","long","name"]:oj Str)):Gd (flt z):=⟨gd_flt z h,by show dp (.tup [.str "fault",.str z])<=20;simp [dp,dpL]⟩
theorem gd_two {u:Str}{d:D}(O:Qx u=v_)(h:isT d=v_):Gd (.tup [.str u,d]):=by
 have U:=QZ h;have hd:=Jn h;refine[?_:?_]
 ·simp only [good,goodL,O,U,vE]
  rfl
 ·simp only [dp,dpL];omega
theorem gd_three {u w:Str}{d:D}(O:Qx u=v_)(U:Qx w=v_)(h:isT d=v_):Gd (.tup [.str u,.tup [.str w,d]]):=by
 have Z:=QZ h;have hd:=Jn h;refine[?_:?_]
 ·simp only [good,goodL,O,U,Z,vE]
  rfl
 ·simp only [dp,dpL];omega
theorem rowO_gd {B:Str->D}{p:Int}(hr:j3 n 300 r)(h:Tr B)(O:rowO own r B p= .stop e):Gd e:=by
 unfold rowO at O;erw[id hr,ks,hk,hp];erw[r,U,ps];by_cases c1:U∈MKR
 ·rw [A3 c1] at O;simp only at O;generalize made U B own ps=dm at O;have aa:(if isT dm=v_ then Out.go (setB B (b0 ps) dm) (p+1) else .stop (flt "big"))= .stop e->Gd e:=by
   intro hq;by_cases c:isT dm=v_
   ·rw [A3 c] at hq;cases hq
   ·rw [A2 c] at hq;cases hq;exact gd_f ()
  cases dm with
  |non=>cases O;exact gd_f ()
  |_=>exact aa O
 rw [A2 c1] at O;by_cases c2:U∈ASK
 ·rw [A3 c2] at O;cases O;erw[ZQ _ hk c2,_,_,Z];simp only at Z;subst Z;erw[wJ hp,z0,z1,rfl,h0,h1];have hT:=h z1 h1;show Gd (askF U (B z1));unfold askF;by_cases d1:U="names"
  ·rw [A3 d1];by_cases d2:isStr (B z1)=v_
   ·rw [A3 d2];exact gd_three () () hT
   ·rw [A2 d2];exact gd_f ()
  ·rw [A2 d1];by_cases d2:isNm (B z1)=v_
   ·rw [A3 d2];refine gd_three () ?_ hT
    split<;>decide+kernel
   ·rw [A2 d2];exact gd_f ()
 rw [A2 c2] at O;by_cases c3:U="say"
 ·rw [A3 c3] at O;cases O;subst c3;have Z:=frm_say _ hk rfl;simp only at Z;subst Z;erw[sh_b hp,z0,rfl,h0];exact gd_two () (h z0 h0)
 rw [A2 c3] at O;by_cases c4:U="fault"
 ·rw [A3 c4] at O;cases O;exact gd_f ()
 rw [A2 c4] at O;by_cases c5:jump U B ps=v_
 ·rw [A3 c5] at O;cases O
 ·rw [A2 c5] at O;cases O
noncomputable def ansS (rs:oj Rw)(own:Str)(r:Rn)(a:D):Rn:=if wu a=v_ then⟨r.B,r.p,r.n+1,r.gs++ [.tup [X7 r.th,a]],flt "lack"⟩ else runS rs own (r.gs++ [.tup [X7 r.th,a]]) (300-(r.n+1)) (setB r.B (b0 (j7 rs r.p).2) a) (r.p+1) (r.n+1)
structure RnOk (rs:oj Rw)(r:Rn):Prop where
 tr:Tr r.B
 p1:1<=r.p
 p2:r.p<=rs.length+1
 n:r.n<=300
 gd:Gd r.th
 two:∃w e,r.th= .tup [.str w,e]
 gs:nL r.gs=v_/\dpL r.gs<=30/\r.gs.length<=r.n
 ask:QO r.th=v_->r.p<=rs.length/\(j7 rs r.p).1∈ASK/\r.n<300/\∃(u:Str) (d:D),r.th= .tup [.str "asks",.tup [.str u,d]]/\u∈(["thing","has","names"]:oj Str)/\isT d=v_
mutual
theorem wb:∀{d:D},good d=v_->nD d=v_
 | .str _,_=>rfl
 | .tup xs,h=>by
  simp only [good,uw] at h;simp only [nD];exact goodL_n h.2
 | .non,h=>by simp [good] at h
 | .bl _,h=>by simp [good] at h
 | .int _,h=>by simp [good] at h
 | .lst,h=>by simp [good] at h
 | .dct,h=>by simp [good] at h
theorem goodL_n:∀{ds:oj D},goodL ds=v_->nL ds=v_
 | [],_=>rfl
 |d::ds,h=>by
  simp only [goodL,uw] at h;simp only [nL];rw [wb h.1,goodL_n h.2]
  rfl
end
theorem nL_app:∀{xs ys:oj D},nL xs=v_->nL ys=v_->nL (xs++ys)=v_
 | [],_,_,h=>h
 |x::xs,ys,h,h2=>by
  simp only [nL,uw] at h;simp only [vQ,nL];rw [h.1,nL_app h.2 h2]
  rfl
theorem dpL_app (n:Nat){xs ys:oj D}(h:dpL xs<=n)(h2:dpL ys<=n):dpL (xs++ys)<=n:=by
 rw [wt] at h h2⊢;intro x O;rcases A7.mp O with O|O
 ·exact h x O
 ·exact h2 x O
theorem rowO_ask {B:Str->D}{p:Int}(hr:j3 n 300 r)(h:Tr B)(O:rowO own r B p= .stop e)(U:QO e=v_):r.1∈ASK/\∃(u:Str) (d:D),e= .tup [.str "asks",.tup [.str u,d]]/\u∈(["thing","has","names"]:oj Str)/\isT d=true:=by
 unfold rowO at O;erw[id hr,ks,hk,hp];erw[r,Z,ps];by_cases c1:Z∈MKR
 ·rw [A3 c1] at O;simp only at O;generalize made Z B own ps=dm at O;have aa:(if isT dm=v_ then Out.go (setB B (b0 ps) dm) (p+1) else .stop (flt "big"))= .stop e->False:=by
   intro hq;by_cases c:isT dm=v_
   ·rw [A3 c] at hq;cases hq
   ·rw [A2 c] at hq;cases hq;exact absurd U ()
  cases dm with
  |non=>cases O;exact absurd U ()
  |_=>exact(aa O).elim
 rw [A2 c1] at O;by_cases c2:Z∈ASK
 ·rw [A3 c2] at O;cases O;exists c2;erw[ZQ _ hk c2,_,_,ek];simp only at ek;subst ek;erw[wJ hp,z0,z1,rfl,h0,h1];have hT:=h z1 h1;have U:QO (askF Z (B z1))=true:=U;show∃u d,askF Z (B z1)=_/\_;unfold askF at U⊢;by_cases d1:Z="names"
  ·rw [A3 d1] at U⊢;by_cases d2:isStr (B z1)=v_
   ·rw [A3 d2];exact⟨_,0,(),hT⟩
   ·rw [A2 d2] at U;exact absurd U ()
  ·rw [A2 d1] at U⊢;by_cases d2:isNm (B z1)=v_
   ·rw [A3 d2];exact⟨_,0,by split<;>decide+kernel,hT⟩
   ·rw [A2 d2] at U;exact absurd U ()
 rw [A2 c2] at O;by_cases c3:Z="say"
 ·rw [A3 c3] at O;cases O;exact absurd U (by simp only [QO];exact λh=>absurd (uj h) ())
 rw [A2 c3] at O;by_cases c4:Z="fault"
 ·rw [A3 c4] at O;cases O;exact absurd U ()
 rw [A2 c4] at O;by_cases c5:jump Z B ps=v_
 ·rw [A3 c5] at O;cases O
 ·rw [A2 c5] at O;cases O
theorem runS_ok {rs:oj Rw}{own:Str}(hR:Q9 rs):∀(f:Nat) (B:Str->D) (p:Int) (n:Nat) (gs:oj D),f+n=300->Tr B->1<=p->p<=rs.length+1->nL gs=v_/\dpL gs<=30/\gs.length<=n->RnOk rs (runS rs own gs f B p n)
 |0,B,p,n,gs,hf,hT,h1,h2,hg=>by
  have U:QO (if p>rs.length then flt "silent" else flt "long")=false:=by split<;>decide+kernel
  refine⟨hT,h1,h2,by show n<=300;omega,?_,?_,hg,λh=>absurd (U.symm.trans h) ()⟩
  ·show Gd (if p>rs.length then flt "silent" else flt "long")
   split
   ·exact gd_f ()
   ·exact gd_f ()
  ·show∃w e,(if p>rs.length then flt "silent" else flt "long")=_
   split
   ·exact[_:0]
   ·exact[_:0]
 |f+1,B,p,n,gs,hf,hT,h1,h2,hg=>by
  unfold runS;by_cases c:p>rs.length
  ·rw [A3 c];exact⟨hT,h1,h2,by show n<=300;omega,gd_f (),[_:0],hg,λh=>absurd h (show¬QO (flt "silent")=v_ by decide+kernel)⟩
  ·rw [A2 c];have O:=hR.ok _ (kj h1 ())
   have hok:=rowO_ok (own:=own) O hT h1 ()
   cases Z:rowO own (j7 rs p) B p with
   |go B' p'=>
    rw [Z] at hok;exact runS_ok hR f B' p' (n+1) gs () hok.1 hok.2.1 hok.2.2 ⟨hg.1,hg.2.1,by have:=hg.2.2;omega⟩
   |stop e=>
    rw [Z] at hok;simp only;refine⟨hT,h1,h2,?_,rowO_gd O hT Z,hok,[hg.1:hg.2.1:?_],λU=> ?_⟩
    ·show(if QO e=v_ then n else n+1)<=300
     split<;>omega
    ·show gs.length<=(if QO e=v_ then n else n+1)
     have:=hg.2.2;split<;>omega
    ·erw[rowO_ask O hT Z U,a1,u,d,a2,a3,a4];refine⟨by show p<=rs.length;omega,a1,?_,u,d,a2,a3,a4⟩
     show(if QO e=v_ then n else n+1)<300
     rw [A3 (show QO e=v_ from U)]
     omega
theorem ansS_ok (Z:Q9 rs){r:Rn}{a:D}(h:RnOk rs r)(hw:QO r.th=v_)(ha:Xv a):RnOk rs (ansS rs own r a):=by
 erw[h.ask hw,k1,k2,k3,u,d,e,k4,k5];have O:nD a=v_/\dp a<=12:=by
  rcases ha with rfl|ha
  ·exact⟨1,by simp [dp]⟩
  ·exact[wb (QZ ha):Jn ha]
 have aa:=Jn k5;have U:nL (r.gs++ [D.tup [X7 r.th,a]])=v_/\dpL (r.gs++ [D.tup [X7 r.th,a]])<=30/\(r.gs++ [D.tup [X7 r.th,a]]).length<=r.n+1:=by
  rw [e];show nL (r.gs++ [.tup [.tup [.str u,d],a]])=v_/\_;refine[nL_app h.gs.1 ?_:dpL_app 30 h.gs.2.1 ?_:?_]
  ·simp only [nL,nD,wb (QZ k5),O.1,vE]
  ·show dpL [.tup [.tup [.str u,d],a]]<=30;simp only [dpL,dp];have:=O.2;omega
  ·rw [uu];have:=h.gs.2.2;show r.gs.length+1<=r.n+1;omega
 unfold ansS;cases hn:wu a with
 |true=>
  rw [A3 rfl];exact⟨h.tr,h.p1,h.p2,by show r.n+1<=300;omega,⟨(by decide+kernel:good (flt "lack")=v_),by show dp (.tup [.str "fault",.str "lack"])<=20;simp [dp,dpL]⟩,[_:0],U,λh=>absurd h (show¬QO (flt "lack")=v_ by decide+kernel)⟩
 |false=>
  rw [A2 u9];have hT:isT a=true:=by
   rcases ha with rfl|ha
   ·cases hn
   ·exact ha
  refine runS_ok Z _ _ _ _ _ () (Ks h.tr hT) (by have:=h.p1;omega) () U
theorem zk {d:D}{u:V}(O:Is H d u)(U:d≠ .non):u≠ .non:=by
 rintro rfl;cases d with
 |non=>exact U rfl
 |bl b=>cases(show V.non= .bl b from O)
 |int i=>cases(show V.non= .int i from O)
 |str z=>erw[O,h,_];cases h
 |lst=>erw[O,_,_,h,_];cases h
 |dct=>erw[O,_,_,h,_];cases h
 |tup xs=>erw[O,_,_,h,_];cases h
theorem ask_sh (O:j3 n 300 r)(hs:r.1∈ASK):∃U z1,r.2= [.s U,.s z1]/\U∈BX:=by
 erw[id O,ks,hk,hp];erw[ZQ _ hk hs,_,_,Z];simp only at Z;subst Z;erw[wJ hp,x,y,e,hx,hy];exact⟨x,y,e,hx⟩
noncomputable def isRow:D->Bool
 | .tup xs=>xs.all isNm
 |_=>UV
noncomputable def ansB (u:Str)(a:D):Bool:=if wu a=v_ then decide (u="thing") else if isT a=v_ then(if u="has" then(["yes","no"]:oj Str).any (λz=>eqD a (.str z)) else decide (u="thing")||isRow a) else UV
theorem ansB_ok {u:Str}{a:D}(h:ansB u a=v_):Xv a:=by
 unfold ansB at h;cases hn:wu a with
 |true=>
  cases a with
  |non=>exact .inl rfl
  |_=>cases hn
 |false=>
  rw [hn,A2 u9] at h;by_cases c:isT a=v_
  ·exact .inr c
  ·rw [A2 c] at h;cases h
inductive sp_rown (vs:List V) (H:Hp) (Q:VK) (E_:XK):Prop
 |mk (v:V) (d:D) (_:vs= [v]) (_:Is H d v) (_:isT d=v_) (_:∀H',Same H H'->Q (.bl (isRow d)) H')
inductive sp_isans (vs:List V) (H:Hp) (Q:VK) (E_:XK):Prop
 |mk (v1 v2:V) (u:Str) (d a:D) (_:vs= [v1,v2]) (_:Is H (.tup [.str u,d]) v1) (_:Is H a v2) (_:∀H',Same H H'->Q (.bl (ansB u a)) H')
inductive sp_ans (C:Addr) (vs:List V) (H:Hp) (Q:VK) (E_:XK):Prop
 |mk (m:Mc) (r:Rn) (v:V) (u:Str) (d a:D) (_:vs= [.ref m.x,v]) (_:Ye C H m r) (_:RnOk m.rs r) (_:r.th= .tup [.str "asks",.tup [.str u,d]]) (_:Is H a v) (_:Q9 m.rs) (_:m.own.length<=100) (_:ansB u a=v_) (_:∀H',Mv m H H'->Ye C H' m (ansS m.rs m.own r a)->Q .non H')
theorem ok_rown (T:Tx K mg a):#[K,2,a.jm,a.jh,["tree"],sp_rown]:=by
 have QW:=#[zp,T];refine T.g_is_row_of_names.F.ok XD () (λ_ _ _ _ H vs Q E hr h=> ?_)
 erw[h,v,d,rfl,iv,hT,k];exists _,%[|#[qu,#[pe_and,7,#[qz,#[qZ,2,rfl],T.qT,uY,#v[pv 0,#[Q7,.ty "tuple",T.Qy,vf]]],#[pe_one,#[qz,#[ww,1,rfl],T.z_all,tV,#v[#[zw,["part"],[],lcs0,#[Kg,4,pv 0],(λ_ _ _ _ _ _=>#[qV,(0),(show Vi (["part"]:oj Str) by decide+kernel)]),(λ_ _ _ _ _ _=>#[qt,QW,hr.mono (),T.g_is_name,#v[pv 0]])]]]]]]]
 exists 7
 exists 0,v,"tuple",tyD d,zd d,1,iv.ty,xU _;cases d with
 |tup xs=>
  refine[0:iteT ?_];erw[iv,a0,vs,rfl,O,U];have hl:xs.length<=1000:=by
   have hg:=QZ hT;simp only [good,uw] at hg;have:=uj hg.1;omega
  refine⟨0,a0,vs,1,SqT.of O,λaa A0 Z=> ?_⟩;refine lc_tupS (tl:= []) (λd=> .bl (isNm d)) O U (yq hl) Z (λd0 x0 H3 R ac s3 i3 r=> ?_) λH1 ys s1 l1 i1=> ?_
  ·exact⟨0,x0,d0,1,i3,λH4 s4=>r _ H4 s4 rfl⟩
  have ey:ys=(xs.map isNm).map V.bl:=IsL.bls (by rwa [uJ])
  exists A0,xs.map isNm,1,SqL.of (by rw [l1,ey])
  have:(xs.map isNm).all id=isRow (.tup xs):=by rw [U2];rfl
  rw [this];exact k H1 s1
 |str z=>exact[0:iteF (k H (Same.refl _))]
 |non=>exact[0:iteF (k H (Same.refl _))]
 |int z=>exact[0:iteF (k H (Same.refl _))]
 |bl z=>exact[0:iteF (k H (Same.refl _))]
 |lst=>exact[0:iteF (k H (Same.refl _))]
 |dct=>exact[0:iteF (k H (Same.refl _))]
theorem ok_isans (T:Tx K mg a):#[K,3,a.wU,a.we,["ask","answer"],sp_isans]:=by
 have yz:=#[jo,T];have XZ:=#[ok_rown,T];exists 9,T.g_is_answer,sc_is_answer,Z
 erw[h,v1,v2,u,d,an,rfl,i1,U,k];exists _,%[#[qI,#[qr,YO,pv 1,Qb,qC _],%[|#[qu,#[YE,QD,#[qQ,Xq,pv 0,qm],qo,qC _]]],qy],#[qI,#[Qz,#[Qq,#[qt,yz,Z.mono (),T.g_is_tree,#v[pv 1]]]],%[|#[qu,je]],qy],#[qI,#[qr,QD,#[qQ,Xq,pv 0,qm],qo,qC _],%[|#[qu,#[YE,#[op_inM,1,Z.units],pv 1,#[qG,#v[qo,qo]],#[w]]]],qy]|#[qu,#[pe_or,7,#[YE,QD,#[qQ,Xq,pv 0,qm],qo,qC _],#[pe_one,#[qt,XZ,Z.mono (),T.g_is_row_of_names,#v[pv 1]]]]]]
 exists 7
 have two:(2:Nat)<=sizeLine:=by decide
 have es:∀y:Str,decide (V.str u=V.str y)=decide (u=y):=λy=>by
  rw [uW];exact⟨λh=>by injection h,λh=>by rw [h]⟩
 have iu:∀{H:Hp}{Q:VK},Is H (.tup [.str u,d]) v1->Q (.str u) H->rIxT K v1 (.int 0) H Q:=λ{H Q} i q=>xS (i:=0) (d:= .str u) i (Ql (j:=0) rfl) λx hx=>by
  erw[hx,rfl,_];exact q
 exists 0,1,0;unfold ansB at k;by_cases cn:an= .non
 ·subst cn;cases(show v2= .non from U)
  refine QG () ?_
  refine[0:.inr (.inl (iu i1 [1:?_]))];rw [es];exact k H (Same.refl _)
 ·have aa:v2≠ .non:=zk U cn;have ac:wu an=false:=by
   cases an with
   |non=>exact absurd rfl cn
   |_=>rfl
  rw [ac,A2 u9] at k;refine Qr (ud aa) ?_;refine⟨0,v2,an,1,U,λH1 s1=>[0:?_]⟩;by_cases O:isT an=v_
  ·rw [A3 O] at k;rw [O];refine iteF ?_;refine[0:.inr (.inl (iu (i1.mono s1.tk) [1:0:?_]))];rw [es];by_cases ch:u="has"
   ·rw [A3 ch] at k;refine QG (ub ch) ?_;refine[0:two:λt1 h1=> ?_];have s2:=qh h1 (.tup [.str "yes",.str "no"]);refine⟨an,t1,["yes","no"],(U.mono s1.tk).mono s2.tk,1,.inr (SqT.of qi),?_,?_,?_,k _ (s1.trans s2)⟩
    ·intro z hz;simp only [uB,vd,uL] at hz;rcases hz with rfl|rfl<;>decide+kernel
    ·have hg:=QZ O;cases an with
     |non=>rfl
     |str z=>rfl
     |tup xs=>
      show puL xs=v_;simp only [good,uw] at hg;exact goodL_pu hg.2
     |_=>simp [good] at hg
    ·have:=Jn O;omega
   ·rw [A2 ch] at k;refine Qr (ud ch) ?_;refine[0:.inr (.inl (iu (i1.mono s1.tk) [1:?_]))];exists 0;rw [es];by_cases ct:u="thing"
    ·rw [ub ct] at k⊢;refine iteT ?_;exact k _ s1
    ·rw [ud ct] at k⊢;refine iteF ?_;exact⟨0,v2,an,1,U.mono s1.tk,O,λH2 s2=>k H2 (s1.trans s2)⟩
  ·rw [A2 O] at k;have:isT an=false:=by
    cases h:isT an with
    |true=>exact absurd h O
    |false=>rfl
   rw [this];exact iteT (k _ s1)
theorem ok_ans (T:Tx K mg a)(C:Fx K w mg g a):#[K,6,a.jY,a.jP,["self","tree"],(sp_ans a.qp)]:=by
 have Qp:=#[ok_wait,T];have O:=#[ok_isans,T];have YC:=#[ok_goon,T,C];exists 9,T.g_Machine_answer,jl
 erw[h,m,[B,p,n,gs,th],v,u,d,an,rfl,M,hO,al,iv,hR,aP,am,k];exists _,%[#[qI,#[Qz,#[Qq,#[yc,pv 0,T.qw,T.g_Machine_is_waiting,Qp]]],%[|Y2],qy],#[qE,(2),jl.nd,#[qQ,Xq,#[qN,5,pv 0,rfl],qm]],#[qI,#[Qz,#[Qq,#[qt,O,hr.mono (),T.g_is_answer,#v[pv 2,pv 1]]]],%[|Y2],qy],#[Qa,#[YR,uK,vh,vi,Yc,#[qN,5,pv 0,rfl],#v[#[qG,#v[pv 2,pv 1]]]]],#[Jy,10,pv 0,qm,in_add],#[qI,#[qr,YO,pv 1,Qb,qC _],%[#[Qd,#[qG,#v[qo,qo]]]|ps_retN],qy],#[xz,#[qQ,Xq,#[qQ,Xq,#[qQ,qP,#[qN,5,pv 0,rfl],#[qX,op_sub,#[qN,5,pv 0,rfl],qm]],qm],qm],pv 1],#[Jy,10,pv 0,qm,in_add],#[Qd,Qb]|#[Qa,#[yc,pv 0,T.qw,T.g_Machine_go_on,YC]]]
 exists 7
 simp only at al;subst al;have two:(2:Nat)<=sizeLine:=by decide
 have hw:QO (.tup [.str "asks",.tup [.str u,d]])=true:=by simp [QO]
 erw[hO.ask hw,af,ad,aQ,_];have ag:=hO.p1;have ao:=hO.gs.2.2;have ap:=hO.tr;simp only at af ad aQ ag ao ap;have hM:=M;erw[hM,dx,fs,rv,ru,tv,gv,e,f,ir,ij,ib,hg,gl,it];simp only at f ib gl it;have aR:fs.length<1000:=by have:=f.len;omega
 exists 8,N1,q1;exists 0,m.x,dx,fs,1,e,f.meth _ (),m,0,M,.inr [_:0],0
 refine Qr (by show(!QO (.tup [.str "asks",.tup [.str u,d]]))=UV;rw [hw];rfl) ?_
 refine q1 _ _ ?_;exists 8,N2,q2;refine⟨0,m.x,_,dx,fs,0,e,T.qw,T.qL,f.there,.inr (.inl (xS (i:=1) it (Ql (j:=1) rfl) λq hq=> ?_))⟩;refine q2 _ _ ?_;exists 8,N3,q3;refine⟨0,0,q,v,u,d,an,1,hq,iv,λH1 s1=>[0:?_]⟩;rw [am];refine iteF ?_;refine q3 _ _ ?_;exists 8,N4,q4;have ha:=ansB_ok am;refine⟨0,m.x,_,dx,fs,0,s1 _ _ e,T.qw,T.Yt,f.given,.inl [1:_:SqL.of (s1 _ _ hg)],0,0,two,λt1 h1=> ?_⟩;have s2:=qh h1 (.tup [q,v]);have ip:Is (upd H1 t1 (.tup [q,v])) (.tup [.tup [.str u,d],an]) (.ref t1):=Is.new (ds:= [.tup [.str u,d],an]) ⟨_,0,hq.mono s1.tk,_,0,iv.mono s1.tk,1⟩ h1;have S2:=s1.trans s2;generalize upd H1 t1 (.tup [q,v])=H2 at s2 ip S2⊢;have bf:gv.length=gs.length:=gl.length;have aq:=S2 _ _ hg;exists m.dg,gv,0,1,aq,XM ()
 have t3:Tk H2 (upd H2 m.dg (.lst (gv++ [.ref t1]))):=Tk.updL aq;have aS:m.x≠m.dg:=λz=>by rw [<-z,e] at hg;cases hg
 have au:m.db≠m.dg:=λz=>by
  erw[ib,ff,e2,_];rw [z,hg] at e2;cases e2
 have e3:(upd H2 m.dg (.lst (gv++ [.ref t1]))) m.x=u_ (.ins a.qp dx fs):=by rw [qk aS];exact S2 _ _ e
 have T3:Tk H (upd H2 m.dg (.lst (gv++ [.ref t1]))):=S2.tk.trans t3;have aw:=(ib.same S2).move t3 (qk au);have ax:L2.IsL (upd H2 m.dg (.lst (gv++ [.ref t1]))) (gs++ [.tup [.tup [.str u,d],an]]) (gv++ [.ref t1]):=(gl.mono T3).append (IsL.one (ip.mono t3));have ay:(upd H2 m.dg (.lst (gv++ [.ref t1]))) m.dg=u_ (.lst (gv++ [.ref t1])):=qi;have aA:Mv m H (upd H2 m.dg (.lst (gv++ [.ref t1]))):=⟨λb o h _ _ n3=>by rw [qk n3];exact S2 b o h,T3⟩
 generalize upd H2 m.dg (.lst (gv++ [.ref t1]))=H3 at t3 e3 T3 aw ax ay aA⊢;refine q4 _ _ ?_;exists 8,N5,q5;exists 0,m.x,_,dx,fs,0,e3,T.qw,T.Q8,f.done,(n:Int),(1),1,1,dx,fs,e3,aR;erw[yf (r:=⟨B,p,n+1,gs++ [.tup [.tup [.str u,d],an]],.tup [.str "asks",.tup [.str u,d]]⟩) e3 (f.set_done (k:=n+1)) (ir.mono T3) (ij.mono T3) aw ay ax (it.mono T3),M4,aB];have aa:=aA.trans aB;have aC:=iv.mono aa.tk;refine q5 _ _ ?_;show tSeq _ _ _ _ (upd H3 m.x (.ins a.qp dx (putF "done" (.int ((n+1:Nat):Int)) fs)));generalize upd H3 m.x (.ins a.qp dx (putF "done" (.int ((n+1:Nat):Int)) fs))=H4 at M4 aB aa aC⊢;erw[M4,Z,U,bg,bh,bo,bp,e4,f4,ah,aD,ac,aE,ak,aF];simp only at f4 ac ak aF;have ae:U.length<1000:=by have:=f4.len;omega
 exists 8,N6,q6;exists 0,1,0;by_cases cn:an= .non
 ·subst cn;cases(show v= .non from iv)
  refine QG () ?_
  refine[two:λl hl=> ?_];have s5:=qh hl (.tup [.str "fault",.str "lack"]);exists 0,m.x,_,Z,U,1,s5 _ _ e4,T.qw,T.qL,ae;erw[yf (r:=⟨B,p,n+1,gs++ [.tup [.tup [.str u,d],.non]],flt "lack"⟩) (s5 _ _ e4) (f4.set_there (u:= .ref l)) (ah.mono s5.tk) (aD.mono s5.tk) (ac.same s5) (s5 _ _ aE) (ak.mono s5.tk) (Is.new (ds:= [.str "fault",.str "lack"]) ⟨_,0,[1:yq ()],_,0,[1:yq ()],1⟩ hl),m1,m2]
  exact k _ (aa.trans ((Mv.of s5).trans m2)) m1
 ·have hT:isT an=true:=ha.resolve_left cn;have aT:v≠ .non:=zk iv cn;have aU:wu an=false:=by
   cases an with
   |non=>exact absurd rfl cn
   |_=>rfl
  refine Qr (ud aT) ?_;refine q6 _ _ ?_;exists 8,N7,q7;erw[ask_sh (hR.ok _ (kj ag af)) ad,z0,z1,aG,aV];have aW:b0 (j7 m.rs p).2=z0:=by rw [aG];rfl
  erw[ac.put aV aC,kvs,aH,aX,t5];have aY:atI (m.rs.map rowD) (p-1)=u_ (rowD (j7 m.rs p)):=by
   rw [show p-1=((p.toNat-1:Nat):Int) by omega]
   exact Ql (by rw [uF,row_at ag af];rfl)
  have aZ:m.db≠m.x:=Yq.ne e4 ac;have a1:m.dg≠m.db:=au.symm;exists 0,0,m.x,_,Z,U,0,e4,T.qw,T.Qu,f4.boxes,0,m.x,_,Z,U,0,e4,T.qw,T.yZ,f4.rows,0,m.x,_,Z,U,0,e4,T.qw,T.Qj,f4.place,_,0,1;refine xS (d:=rowD (j7 m.rs p)) ah aY λq5 a3=> ?_;refine .inr (.inl (xS (i:=1) a3 (Ql (j:=1) rfl) λq6 aI=> ?_));rw [aG] at aI;refine .inr (.inl (xS (i:=0) (d:= .str z0) aI (Ql (j:=0) rfl) λq7 a4=> ?_));erw[a4,rfl,_];exists m.db,0,aH;have e5:(upd H4 m.db (.dK kvs)) m.x=u_ (.ins a.qp Z U):=by rwa [qk aZ.symm]
  refine q7 _ _ ?_;exists 8,N8,q8;exists 0,m.x,_,Z,U,0,e5,T.qw,T.Qj,f4.place,p,(1),1,1,Z,U,e5,ae;obtain⟨M6,a5⟩:=yf (r:=⟨setB B z0 an,p+1,n+1,gs++ [.tup [.tup [.str u,d],an]],.tup [.str "asks",.tup [.str u,d]]⟩) e5 (f4.set_place (q:=p+1)) (ah.mono t5) (aD.mono t5) aX (by rwa [qk a1]) (ak.mono t5) (aF.mono t5)
  have aJ:=aa.trans (Mv.trans ⟨λb o h _ a2 _=>by rwa [qk a2],t5⟩ a5)
  erw[M6,a6,aK,bq,bt,bu,bv,e6,f6,a7,a8,aL,a9,aM,ba];simp only at f6 aL aM ba;have aN:aK.length<1000:=by have:=f6.len;omega
  refine q8 _ _ ?_;exists 8,N9,q9;exists 0,m.x,_,a6,aK,1,e6,T.qw,T.qL,aN;erw[yf (r:=⟨setB B z0 an,p+1,n+1,gs++ [.tup [.tup [.str u,d],an]],.non⟩) e6 (f6.set_there (u:= .non)) a7 a8 aL a9 aM rfl,M7,bb];have aO:=aJ.trans bb;erw[id M7,bc,bd,bw,bx,bA,bB,e7,f7,r7];refine q9 _ _ ?_;refine⟨0,m.x,bc,bd,1,e7,f7.meth _ (),m,0,M7,1,Ks ap hT,aP,hR,by show 1<=p+1;omega,by show p+1<=_;omega,by show n+1<=300;omega,λH8 be M8=>k H8 (aO.trans be) ?_⟩
  unfold ansS;rw [aU,A2 u9];simp only;rw [aW];exact M8
noncomputable def PotQ (H:Hp)(p:o3):Prop:=∃x:Int,H p=u_ (.lst [.int x])/\0<=x
theorem PotQ.same (h:PotQ H p)(s:Same H H'):PotQ H' p:=by
 erw[h,x,e,r];exact[x:s _ _ e:r]
theorem PotQ.free {l:o3}(h:PotQ H p)(n:H l=UU):p≠l:=by
 erw[h,x,e,r];exact ql e n
theorem PotQ.tk (h:PotQ H p)(h':PotQ H' p)(k:Kept p H H'):Tk H H':=by
 erw[h,x,e,_];erw[h',U,O,_];exact k.tk e O
inductive sp_takQ (vs:List V) (H:Hp) (Q:VK) (E_:XK):Prop
 |mk (p:Addr) (many:Int) (_:vs= [.ref p,.int many]) (_:PotQ H p) (_:0<many) (_:many<1073741824) (_:∀(d:Int) (H':Hp),0<=d->d<many->PotQ H' p->Kept p H H'->Q (.int d) H')
inductive sp_potQ (vs:List V) (H:Hp) (Q:VK) (E_:XK):Prop
 |mk (c t:Int) (_:vs= [.int c,.int t]) (_:0<=t) (_:t<1000) (_:∀(p:Addr) (H':Hp),H p=UU->Same H H'->PotQ H' p->Q (.ref p) H')
theorem jK (T:Tx K mg a):#[K,1,a.WZ,a.Wv,["pot","many"],sp_takQ]:=by
 exists 9,T.g_law_take,wc
 erw[h,p,many,rfl,[x,O,Z],hm,U,k];exists _,%[#[qE,(2),wc.nd,#[qX,jQ,#[qQ,yd,pv 0,qm],pv 1]],#[ps_asg,6,#[qX,kh,#[qQ,yd,pv 0,qm],pv 1],#[pg_sub,7,pv 0,qm,set_list,_],_,_,_]|#[qu,pv 2]]
 exists 7
 exists 0,p,_,_,0,1,SqL.of O,1,0,_,0,1,hm;exists 0,p,_,_,0,1,SqL.of O,1,0,_,0,1,[hm:U],0,p,_,_,0,1,O,1;exists 0;refine k _ _ (U0 _ ()) (vJ _ hm) [x/many:qi:Int.ediv_nonneg Z ()] (Kept.upd _ _ _)
theorem ok_potQ (T:Tx K mg a):#[K,1,a.f_law_pot,a.d_law_pot,["cell","salt"],sp_potQ]:=by
 exists 9,T.g_law_pot,Yr
 erw[h,c,t,rfl,h0,h1,k];exists _,%[#[qI,#[qr,op_ge,#[qz,call_abs,T.z_abs,boot_abs,#v[pv 0]],#[qX,op_pow,qm,qm],qC _],%[|#[qu,#[QK,#v[#[qz,call_abs,T.z_abs,boot_abs,#v[pv 0]]]]]],qy],#[qE,(2),Yr.nd,#[qX,jQ,#[qX,op_mul,#[qX,ya,#[qX,ya,#[qX,jQ,pv 0,qm],#[qX,op_mul,qm,pv 1]],qm],qm],qm]],#[qE,(3),Yr.nd,qm],#[jV,#[YA,#v[qm]],#[qV,(4),Yr.nd],%[#[qE,(2),Yr.nd,#[qX,jQ,#[qX,ya,#[qX,ya,#[qX,op_mul,pv 2,pv 2],#[qX,op_mul,qm,pv 4]],qm],qm]]|#[qE,(3),Yr.nd,#[qX,ya,#[qX,op_mul,pv 3,qm],pv 2]]]]|#[qu,#[QK,#v[pv 3]]]]
 exists 7
 exists 0,0,_,0,1,[():():()],_,0,1,0
 refine ite2 (λ_=> ?_) (λ_=> ?_)
 ·refine⟨0,0,(sml rfl),λp O=> ?_⟩;refine k p _ O (qh O _) [_:qi:?_];split<;>omega
 ·refine⟨0,_,0,1,(by show(0:Int)<2147483647;decide),0,_,0,1,(.inl [():()]),_,0,1,_,0,1,_,0,1,(.inr [():()]),_,0,1,(by show(0:Int)<2147483647;decide),(9),1,(),(),?_⟩
  let J1_:Nat->L2.St->Hp->Prop:=λi σ H'=>∃(x b:Int) (kv:om V),σ= [u_ (.int c),u_ (.int t),u_ (.int x),u_ (.int b),kv]/\0<=x/\x<2147483647/\0<=b/\H'=H
  refine ZW (n:=9) J1_ ⟨_,_,UU,1,U0 _ (),vJ _ (),(),1⟩ ?_ ?_
  ·rintro i σ H' hi ⟨x,b,kv,rfl,Z,aa,hb,rfl⟩;have U:CMul x x:= .inl [():()]
   refine⟨0,0,_,0,1,U,0,_,0,1,(.inl [():()]),_,0,1,_,0,1,_,0,1,(by show(0:Int)<2147483629;decide),0,_,0,1,(.inr [():()]),0,_,0,1,?_⟩
   have q0:0<=(x*x+40692*(0+(i:Int))+3)%2147483629:=U0 _ ()
   have q1:(x*x+40692*(0+(i:Int))+3)%2147483629<2147483629:=vJ _ ()
   exact⟨_,_,0,q0,Int.lt_trans q1 (),Int.add_nonneg (Int.mul_nonneg hb ()) q0,1⟩
  ·rintro σ H' ⟨x,b,kv,rfl,Z,aa,hb,rfl⟩;exact[0:(sml rfl):λp O=>k p _ O (qh O _) [_:qi:hb]]
noncomputable def Nm4 (zs:oj Str):Prop:=1<=zs.length/\zs.length<=20/\∀z∈zs,nm z=v_/\z.length<=4
noncomputable def Wd (n:Nat)(z:Str):Prop:=jZ z=v_/\z.length<=n
theorem Kept.of (s:Same H H'):Kept p H H':=λb o e _=>s b o e
theorem PotQ.ne_strs {l:o3}(h:PotQ H p)(e:H l=u_ (.lst (zs.map V.str))):l≠p:=λz=>by
 erw[h,x,O,_];rw [<-z,e] at O;cases zs with
 |nil=>cases O
 |cons a r=>simp at O
inductive sp_word (vs:List V) (H:Hp) (Q:VK) (E_:XK):Prop
 |mk (p L:Addr) (zs:List Str) (_:vs= [.ref p,.ref L]) (_:PotQ H p) (_:H L=u_ (.lst (zs.map V.str))) (_:Nm4 zs) (_:∀(z:Str) (H':Hp),Wd 4 z->PotQ H' p->Kept p H H'->Q (.str z) H')
inductive sp_line (vs:List V) (H:Hp) (Q:VK) (E_:XK):Prop
 |mk (p L:Addr) (zs:List Str) (many k:Nat) (_:vs= [.ref p,.ref L,.int (many:Int),.int (k:Int)]) (_:PotQ H p) (_:H L=u_ (.lst (zs.map V.str))) (_:Nm4 zs) (_:1<=many) (_:many<=12) (_:k<=12) (_:∀(z:Str) (H':Hp),Wd 20 z->PotQ H' p->Kept p H H'->Q (.str z) H')
noncomputable def FIV:oj Str:= ["","x","b1 g","yes","c/d"]
theorem fiv_ok:∀z∈FIV,Wd 4 z:=by
 have:∀z∈FIV,jZ z=v_/\z.length<=4:=by decide+kernel
 exact this
theorem nm_all (h:nm z=v_):jZ z=true:=okN_all (nm_okN h)
theorem wd_of (h:Nm4 zs):∀z∈zs++FIV,Wd 4 z:=λz O=>by
 rcases A7.mp O with h1|h1
 ·exact[nm_all (h.2.2 z h1).1:(h.2.2 z h1).2]
 ·exact fiv_ok z h1
theorem Wd.cat {m k:Nat}{y:Str}(h:Wd n x)(h':Wd m y)(e:n+m<=k):Wd k (x++y):=⟨okAll_app h.1 h'.1,by rw [app_len];have:=h.2;have:=h'.2;omega⟩
theorem join_ok:∀{l:oj Str},(∀z∈l,jZ z=v_)->Wd ((l.map (·.length)).sum+l.length) (V2 " " l)
 | [],_=>[1:uU _]
 | [z],h=>⟨h z (by simp),by show z.length<=_;simp⟩
 |z::y::r,h=>by
  have O:=join_ok (l:=y::r) λx U=>h x (uc _ U);have Z:=h z (by simp)
  have e:=L2.Jm z y r;refine[?_:?_]
  ·show(V2 " " (z::y::r)).cps.toList.all QE=v_;rw [e,UD,vn,show z.cps.toList.all QE=v_ from Z,show(V2 " " (y::r)).cps.toList.all QE=v_ from O.1]
   decide
  ·rw [len_cps,e,uu,ui,<-len_cps,<-len_cps];have h1:=O.2;simp only [uq,Um,ui] at h1⊢;omega
noncomputable def WL:oj Str:= ["ask","ask","ask","has","names","text","text","copy","put","put","join","first","first","rest","size","cut","glue","like","none","rowed","go","say","fault","self"]
noncomputable abbrev WTX:Str:="ask ask ask has names text text copy put put join first first rest size cut glue like none rowed"
theorem wl_spl:spl ((WTX++(" go say fault self":Str)).length+1) (WTX++(" go say fault self":Str))=WL:=by decide+kernel
theorem wl_ok:∀z∈WL,Wd 5 z:=by
 have:∀z∈WL,jZ z=v_/\z.length<=5:=by decide+kernel
 exact this
theorem abc_ok:∀c∈("abcdh":Str).cps.toList,QE c=true:=by decide+kernel
theorem abc_at {d:Int}(h0:0<=d)(h1:d<5):∃c,atI ("abcdh":Str).cps.toList d=u_ c/\Wd 1 ⟨#[c]⟩:=by
 obtain⟨c,O⟩:=Y1 (xs:=("abcdh":Str).cps.toList) h0 (by show d<5;exact h1)
 refine⟨c,O,?_,uh _⟩;show [c].all QE=v_;rw [vn,abc_ok c (JE O)]
 rfl
theorem num_ok:∀k:Nat,k<13->jZ (V3 (k:Int):Str)=v_/\(V3 (k:Int):Str).length<=2:=by decide+kernel
theorem ok_word (T:Tx K mg a):#[K,2,a.WA,a.WX,["pot","names"],sp_word]:=by
 have qS:=#[jK,T];exists 9,T.g_law_word,ZF
 erw[h,p,L,zs,rfl,hP,hL,U,k];have hs:=uA;have aa:=U.1;have ac:=U.2.1;exists _,%[#[qE,(2),ZF.nd,#[qX,WO,pv 1,#[QK,#v[qo,qo,qo,qo,qo]]]]|#[qu,#[qQ,yd,pv 2,#[qt,qS,hr.mono (),T.g_law_take,#v[pv 0,#[qz,qM,T.yE,uG,#v[pv 2]]]]]]]
 exists 7
 refine[0:(sml rfl):λq hq=> ?_];have s1:Same H (upd H q (.lst [.str "",.str "x",.str "b1 g",.str "yes",.str "c/d"])):=qh hq _;refine⟨L,q,_,0,1,s1 _ _ hL,qi,(by rw [ua];show _+5<=UY;omega),λl hl=> ?_⟩
 have s2:=s1.trans (qh hl (.lst (zs.map V.str++ [.str "",.str "x",.str "b1 g",.str "yes",.str "c/d"])));have O:(upd (upd H q (.lst [.str "",.str "x",.str "b1 g",.str "yes",.str "c/d"])) l (.lst (zs.map V.str++ [.str "",.str "x",.str "b1 g",.str "yes",.str "c/d"]))) l=u_ (.lst ((zs++FIV).map V.str)):=by rw [qi,ur];rfl
 generalize upd (upd H q (.lst [.str "",.str "x",.str "b1 g",.str "yes",.str "c/d"])) l (.lst (zs.map V.str++ [.str "",.str "x",.str "b1 g",.str "yes",.str "c/d"]))=H2 at s2 O⊢;have P2:=hP.same s2;have l5:((zs++FIV).map V.str).length=zs.length+5:=by rw [ua,uu];rfl
 refine⟨0,0,0,l,0,.inl (SqL.of O),p,0,P2,by rw [l5];omega,by rw [l5];omega,λd H' d0 d1 P3 K3=> ?_⟩
 have Z:=K3 _ _ O (P2.ne_strs O);erw[Y1 (xs:=(zs++FIV).map V.str) d0 d1,v,hv];erw[A8.mp (JE hv),z,hz,rfl];exact⟨l,_,d,0,1,SqL.of Z,hv,k z H' (wd_of U z hz) P3 ((Kept.of s2).trans K3)⟩
theorem sums {c:Nat}:∀{l:oj Str},(∀z∈l,z.length<=c)->(l.map (·.length)).sum<=l.length*c
 | [],_=>by simp
 |z::r,h=>by
  have:=sums λy O=>h y (uc _ O);have:=h z uf;simp only [uq,Um,ui,Fd,rJ];omega
theorem joins {K:o0}(hl:l.length<=3)(O:Wd 5 z)(h:∀z∈l,Wd 2 z)(k:∀y H',Wd 20 y->Same H H'->Q (.str y) H'):((z::l).map V.str).length<=UY/\∀p,H p=UU->rJoin K (.str " ") [.ref p] (upd H p (.lst ((z::l).map V.str))) Q:=by
 have hs:=uA;have h1:=sums (c:=2) λz O=>(h z O).2;have h2:=O.2;refine⟨by rw [ua,ui];omega,λp Z=>⟨" ",p,z::l,1,1,SqL.of qi,?_,?_⟩⟩
 ·have e:(" ":Str).length=1:=rfl;rw [e];simp only [uq,Um,ui];omega
 ·have:=join_ok (l:=z::l) λy U=>by
   rcases A5.mp U with rfl|U
   ·exact O.1
   ·exact(h y U).1
  refine k _ _ [this.1:?_] (qh Z _);have h3:=this.2;simp only [uq,Um,ui] at h3;omega
theorem ok_line (T:Tx K mg a):#[K,3,a.W8,a.WN,["pot","names","many","k"],sp_line]:=by
 have qS:=#[jK,T];have QU:=#[ok_word,T];exists 9,T.g_law_line,yl
 erw[h,p,L,zs,many,i,rfl,hP,hL,hN,ay,aA,hi,k];exists _,%[#[qE,(4),yl.nd,qo],#[qE,(5),yl.nd,#[qQ,yd,#[YR,uP,Ua,Ub,mt_split,#[qX,Qh,pv 4,qo],#v[qo]],#[qt,qS,hr.mono (),T.g_law_take,#v[pv 0,qm]]]],#[ps_asg,6,#[zw,["j","pot"],[0],lcsN (qj JO) ["pot","names","many","k","words","word","one","two","three","at"],#[YA,#v[qm]],(λ_ _ _ _ _ _=>#[qV,(0),(show Vi (["j","pot"]:oj Str) by decide+kernel)]),(λ_ _ _ _ _ _=>#[qQ,ix_str,qo,#[qt,qS,hr.mono (),T.g_law_take,#v[pv 1,qm]]])],#[pg_lstU,6,rfl,yu #[qV,(6),yl.nd] (yu #[qV,(7),yl.nd] (yu #[qV,(8),yl.nd] wk)),_,_],_,_,_],#[qE,(9),yl.nd,#[qY,YY,T.zn,Us,#v[#[qz,#[call_min2,1,rfl],T.z_min,boot_min,#v[pv 2,#[qX,ya,#[qX,ya,pv 3,qm],#[qt,qS,hr.mono (),T.g_law_take,#v[pv 0,pv 2]]]]]]]],#[qI,#[qr,QD,pv 5,qo,qC _],%[|#[qu,#[qX,Qh,#[qX,Qh,#[qX,Qh,qo,pv 6],qo],#[qt,QU,hr.mono (),T.g_law_word,#v[pv 0,pv 1]]]]],qy],#[qI,#[qr,QA,pv 5,#[QK,#v[qo,qo]],#[w]],%[|#[qu,#[qX,Qh,#[qX,Qh,pv 5,qo],pv 6]]],qy],#[qI,#[qr,QD,pv 5,qo,qC _],%[|#[qu,pv 5]],qy],#[qI,#[qr,QD,pv 5,qo,qC _],%[|#[qu,#[qX,Qh,qo,pv 9]]],qy],#[qI,#[qr,QA,pv 5,#[QK,#v[qo,qo]],#[w]],%[|#[qu,#[YR,uP,vU,vV,kH,qo,#v[#[QK,#v[pv 5,pv 6,pv 9]]]]]],qy],#[qI,#[qr,QD,pv 5,qo,qC _],%[|#[qu,#[YR,uP,vU,vV,kH,qo,#v[#[QK,#v[pv 5,pv 6,pv 7,pv 9]]]]]],qy],#[qI,#[qr,QA,pv 5,#[QK,#v[qo,qo]],#[w]],%[|#[qu,#[YR,uP,vU,vV,kH,qo,#v[#[QK,#v[pv 5,pv 6,pv 7,pv 8]]]]]],qy]|#[qu,#[YR,uP,vU,vV,kH,qo,#v[#[QK,#v[pv 5,pv 6,pv 7]]]]]]
 exists 7
 refine⟨0,_,0,1,(),1,0,1,(),λq hq=> ?_⟩
 rw [show spl _ _=WL from wl_spl]
 have s1:Same H (upd H q (.lst (WL.map V.str))):=qh hq _;have eq:(upd H q (.lst (WL.map V.str))) q=u_ (.lst (WL.map V.str)):=qi;generalize upd H q (.lst (WL.map V.str))=H1 at s1 eq⊢;have P1:=hP.same s1;refine⟨0,p,(24),1,P1,(),(),λd H2 d0 d1 P2 K2=> ?_⟩
 obtain⟨v,hv⟩:=Y1 (xs:=WL.map V.str) d0 (by show d<24;exact d1)
 erw[A8.mp (JE hv),z,hz,rfl];exists q,_,d,0,1,SqL.of (K2 _ _ eq (P1.ne_strs eq)),hv;have Z:=wl_ok z hz;have ah:Kept p H H2:=(Kept.of s1).trans K2;clear K2 hv hz eq P1 s1 hq;refine⟨(3),1,(),(),λD hD=> ?_⟩
 refine JV (lo:=0) (tl:= [u_ (.ref p)]) (λi ys H'=>∃bs:oj Str,ys=bs.map V.str/\bs.length=i/\(∀b∈bs,Wd 1 b)/\PotQ H' p/\(∀b o,H2 b=u_ o->b≠p->H' b=u_ o)) (yq ()) ⟨[],1,1,λb hb=>by simp at hb,P2.same (qh hD _),λb o e _=>qh hD _ _ _ e⟩ ?_ ?_
 ·rintro j ys H' hj ⟨bs,rfl,aa,U,P',K'⟩ ac O R hR;refine⟨0,p,(5),1,P',(),(),λd3 H4 e0 e1 P4 K4=> ?_⟩
  erw[abc_at e0 e1,c,hc,am];exists "abcdh",d3,c,1,1,(),hc
  have nD:D≠p:=(P2.free hD).symm;refine hR _ H4 (K4 _ _ ac nD) ⟨bs++ [⟨#[c]⟩],by rw [ur];rfl,by rw [uu,aa];rfl,λb hb=> ?_,?_,λb o e np=> ?_⟩
  ·rcases A7.mp hb with h|h
   ·exact U b h
   ·rw [vT] at h;subst h;exact am
  ·erw[P4,x,e2,h2];exact⟨x,by rwa [qk nD.symm],h2⟩
  ·rw [qk (ql e hD)];exact K4 _ _ (K' b o e np) np
 ·rintro ys H' ⟨bs,rfl,aa,U,P',K'⟩ ac;obtain⟨x1,x2,x3,rfl⟩:∃x1 x2 x3,bs= [x1,x2,x3]:=by
   match bs,aa with
   | [x1,x2,x3],_=>exact⟨x1,x2,x3,1⟩
  have h1:Wd 2 x1:=⟨(U x1 (by simp)).1,by have:=(U x1 (by simp)).2;omega⟩
  have h2:Wd 2 x2:=⟨(U x2 (by simp)).1,by have:=(U x2 (by simp)).2;omega⟩
  have h3:Wd 2 x3:=⟨(U x3 (by simp)).1,by have:=(U x3 (by simp)).2;omega⟩
  have KD:Kept p H H':=λb o e np=>K' b o (ah b o e np) np;exists D,0,SqL.of ac,1,_,0,_,0,_,0,1;clear K' ah P2 U aa ac;refine⟨0,0,_,0,1,0,0,p,many,1,P',(),(),λd5 H5 f0 f1 P5 K5=>⟨_,0,1,_,0,?_⟩⟩
  obtain⟨j,ej,ao,ap⟩:∃j:Int,j=(if(i:Int)+5+d5<(many:Int) then(i:Int)+5+d5 else(many:Int))/\1<=j/\j<=12:=⟨0,by split<;>omega,by split<;>omega⟩
  rw [<-ej];obtain⟨jn,rfl⟩:∃n:Nat,j=(n:Int):=[j.toNat:()]
  have ak:=num_ok jn ()
  have h4:Wd 2 (V3 ((jn:Nat):Int):Str):=ak;have ae:((jn:Nat):Int).natAbs.log2<1920:=by have:=UR ((jn:Nat):Int).natAbs;omega
  exists 0,ae;have af:Kept p H H5:=KD.trans K5;have aq:=af _ _ hL (hP.ne_strs hL);have fin:∀(y:Str) (H':Hp),Wd 20 y->Same H5 H'->Q (.str y) H':=λy H' O s'=>k y H' O (P5.same s') (af.trans (Kept.of s'));have two:(2:Nat)<=sizeLine:=by decide
  have bl:Wd 1 " ":=[():uh _]
  have fz:∀{n m:Nat}{x y:Str},Wd n x->Wd m y->n+m<=100->x.length+y.length<=sizeLine:=λhx O h=>fits (by have:=hx.2;have:=O.2;omega)
  have tx:Wd 5 "text ":=[():uh _]
  have go:Wd 3 "go ":=[():uh _]
  clear ak ao ap ae ej;refine⟨0,1,0,ite2 (λ_=> ?_) (λ_=> ?_)⟩
  ·have w1:=tx.cat h1 (k:=7) ()
   have w2:=w1.cat bl (k:=8) ()
   refine⟨0,_,0,1,fz tx h1 (),_,0,1,fz w1 bl (),0,0,p,L,zs,1,P5,aq,hN,λy H6 O P6 K6=> ?_⟩
   exact⟨_,0,1,fz w2 O (),k _ H6 (w2.cat O ()) P6 (af.trans K6)⟩
  refine[0:two:λl1 au=>⟨l1,0,.inl (SqL.of qi),1,1,0,?_⟩];have ad:=qh au (.lst ([.str "self",.str "say"]:oj V));refine ite2 (λ_=> ?_) (λ_=> ?_)
  ·have w1:=Z.cat bl (k:=6) ()
   exact⟨0,_,0,1,fz Z bl (),0,_,0,1,fz w1 h1 (),fin _ _ (w1.cat h1 ()) ad⟩
  refine⟨0,1,0,ite2 (λ_=> ?_) (λ_=> ?_)⟩
  ·exact⟨0,fin _ _ ⟨Z.1,by have:=Z.2;omega⟩ ad⟩
  refine⟨0,1,0,ite2 (λ_=> ?_) (λ_=> ?_)⟩
  ·exact⟨0,_,0,1,fz go h4 (),fin _ _ (go.cat h4 ()) ad⟩
  refine[0:two:λl2 aw=>⟨l2,0,.inl (SqL.of qi),1,1,0,?_⟩];have ag:=ad.trans (qh aw (.lst ([.str "none",.str "rowed"]:oj V)));refine ite2 (λ_=> ?_) (λ_=> ?_)
  ·exists 1,0,0,0;exact joins (l:= [x1,V3 ((jn:Nat):Int)]) (by simp) Z (λy O=>by simp at O;rcases O with rfl|rfl<;>assumption) λy H' O s'=>fin y H' O (ag.trans s')
  refine⟨0,1,0,ite2 (λ_=> ?_) (λ_=> ?_)⟩
  ·exists 1,0,0,0,0;exact joins (l:= [x1,x2,V3 ((jn:Nat):Int)]) (by simp) Z (λy O=>by simp at O;rcases O with rfl|rfl|rfl<;>assumption) λy H' O s'=>fin y H' O (ag.trans s')
  refine[0:two:λl3 ax=>⟨l3,0,.inl (SqL.of qi),1,1,0,?_⟩];have al:=ag.trans (qh ax (.lst ([.str "cut",.str "glue"]:oj V)));refine ite2 (λ_=> ?_) (λ_=> ?_)
  ·exists 1,0,0,0,0;exact joins (l:= [x1,x2,x3]) (by simp) Z (λy O=>by simp at O;rcases O with rfl|rfl|rfl<;>assumption) λy H' O s'=>fin y H' O (al.trans s')
  ·exists 1,0,0,0;exact joins (l:= [x1,x2]) (by simp) Z (λy O=>by simp at O;rcases O with rfl|rfl<;>assumption) λy H' O s'=>fin y H' O (al.trans s')
noncomputable def TrOk (d:D):Prop:=isT d=v_/\lw d=v_/\sz d<=300
inductive sp_tre (vs:List V) (H:Hp) (Q:VK) (E_:XK):Prop
 |mk (p L:Addr) (zs:List Str) (_:vs= [.ref p,.ref L]) (_:PotQ H p) (_:H L=u_ (.lst (zs.map V.str))) (_:Nm4 zs) (_:∀(v:V) (d:D) (H':Hp),TrOk d->Is H' d v->PotQ H' p->Kept p H H'->Q v H')
theorem IsL.ofStrz {H:Hp}:∀{l:oj Str},(∀z∈l,z.length<=1000)->L2.IsL H (l.map D.str) (l.map V.str)
 | [],_=>rfl
 |z::r,h=>⟨_,0,[1:yq (h z uf)],IsL.ofStrz λy O=>h y (uc _ O)⟩
theorem szL_strs {n:Nat}:∀{l:oj Str},(∀z∈l,z.length<=n)->szL (l.map D.str)<=l.length*(n+1)
 | [],_=>by simp [szL]
 |z::r,h=>by
  have:=szL_strs (n:=n) λy O=>h y (uc (a:=y) z O);have:=h z uf;simp only [uq,szL,sz,ui,Fd,rJ];omega
theorem lw_strs:∀{l:oj Str},(∀z∈l,jZ z=v_)->lwL (l.map D.str)=v_
 | [],_=>rfl
 |z::r,h=>by
  rw [uq,lwL,lw_strs λy O=>h y (uc _ O),vE];exact h z uf
theorem dp_strs:∀l:oj Str,dpL (l.map D.str)<=1
 | []=>by simp [dpL]
 |z::r=>by have:=dp_strs r;simp only [uq,dpL,dp];omega
theorem good_strs:∀{l:oj Str},(∀z∈l,Wd 300 z)->goodL (l.map D.str)=v_
 | [],_=>rfl
 |z::r,h=>by
  rw [uq,goodL,good_strs λy O=>h y (uc _ O),vE];show Qx z=v_;unfold Qx;have:=h z uf;rw [ub this.2];exact this.1
theorem tr_str (h:Wd 20 z):TrOk (.str z):=⟨isT_short h.1 (by have:=h.2;omega),h.1,by simp only [sz];have:=h.2;omega⟩
theorem tr_row (Z:l.length<=14)(h:∀z∈l,Wd 20 z):TrOk (.tup (l.map D.str)):=by
 have h1:=szL_strs λz O=>(h z O).2;have h2:=dp_strs l;have h3:=good_strs λz O=>(⟨(h z O).1,by have:=(h z O).2;omega⟩:Wd 300 z)
 have e:sz (.tup (l.map D.str))<=300:=by simp only [sz];omega
 refine⟨?_,by simpa only [lw] using lw_strs λz O=>(h z O).1,e⟩
 have U:dp (.tup (l.map D.str))<=12:=by simp only [dp];omega
 unfold isT;rw [ub (show sz (.tup (l.map D.str))<=600 by omega),ub U]
 simp only [good];rw [h3,ua,ub (show l.length<=40 by omega)]
 rfl
theorem wN {t:o3}(h:∀z∈l,Wd 20 z)(O:H t=UU):Is (upd H t (.tup (l.map V.str))) (.tup (l.map D.str)) (.ref t):=
 Is.new (IsL.ofStrz λz U=>by have:=(h z U).2;omega) O
noncomputable def MKL (z:Str):oj Str:= ["row h","text b "++z,"ask c b","text a text d ","join a c","put h a","text a ask e d","put h a","text a say e","put h a","say h"]
theorem mkl_ok (h:Wd 4 z):∀y∈MKL z,Wd 20 y:=by
 have O:∀y∈(["row h","ask c b","text a text d ","join a c","put h a","text a ask e d","put h a","text a say e","put h a","say h"]:oj Str),jZ y=v_/\y.length<=20:=by decide+kernel
 intro y U;rcases A5.mp U with rfl|U
 ·exact O _ (by simp)
 ·rcases A5.mp U with rfl|U
  ·exact Wd.cat (n:=7) (m:=4) [():uh _] h ()
  ·exact O y (uc _ U)
theorem ok_maker (T:Tx K mg a):#[K,2,a.Zy,a.ZK,["pot","names"],sp_tre]:=by
 have qS:=#[jK,T];exists 9,T.g_law_maker,YT
 erw[h,p,L,zs,rfl,hP,hL,Z,k];have ac:=Z.1;have ad:=Z.2.1;exists _,%[#[qE,(2),YT.nd,#[qQ,yd,pv 1,#[qt,qS,hr.mono (),T.g_law_take,#v[pv 0,#[qz,qM,T.yE,uG,#v[pv 1]]]]]],#[qE,(3),YT.nd,#[QK,#v[qo,#[qX,Qh,qo,pv 2],qo,qo,qo,qo]]],#[qE,(3),YT.nd,#[qX,WO,pv 3,#[QK,#v[qo,qo,qo,qo,qo]]]]|#[qu,#[qY,qU,T.Qy,vf,#v[pv 3]]]]
 exists 7
 have aa:=hP.ne_strs hL;refine⟨0,0,0,L,0,.inl (SqL.of hL),p,0,hP,by rw [ua];omega,by rw [ua];omega,λd1 H1 a0 a1 P1 K1=> ?_⟩
 erw[Y1 (xs:=zs.map V.str) a0 a1,v,hv];erw[A8.mp (JE hv),z,hz,rfl];have O:Wd 4 z:=[nm_all (Z.2.2 z hz).1:(Z.2.2 z hz).2];exists L,_,_,0,1,SqL.of (K1 _ _ hL aa),hv;have e7:("text b ":Str).length=7:=by decide+kernel
 refine⟨0,_,0,1,fits (by have:=O.2;omega),(sml rfl),λU h1=> ?_⟩
 have q1:=qh h1 (.lst (((MKL z).take 6).map V.str));have e1:(upd H1 U (.lst (((MKL z).take 6).map V.str))) U=u_ (.lst (((MKL z).take 6).map V.str)):=qi;show tSeq _ _ _ _ (upd H1 U (.lst (((MKL z).take 6).map V.str)));generalize upd H1 U (.lst (((MKL z).take 6).map V.str))=H2 at q1 e1⊢;refine[0:(sml rfl):λl2 h2=> ?_];have q2:=qh h2 (.lst (((MKL z).drop 6).map V.str));refine⟨U,l2,_,0,1,q2 _ _ e1,qi,fits (by show 6+5<=16000000;decide),λl3 h3=> ?_⟩
 have q3:=q2.trans (qh h3 (.lst ((MKL z).map V.str)));refine⟨0,l3,(MKL z).map V.str,1,.inl [SqL.of qi:λt ht=> ?_]⟩;have q4:=qh ht (.tup ((MKL z).map V.str));exact k _ _ _ (tr_row (by show 11<=14;decide) (mkl_ok O)) (wN (mkl_ok O) ht) ((P1.same q1).same (q3.trans q4)) (K1.trans (Kept.of (q1.trans (q3.trans q4))))
theorem ok_rule (T:Tx K mg a):#[K,4,a.Wp,a.kf,["pot","names"],sp_tre]:=by
 have qS:=#[jK,T];have QU:=#[ok_word,T];have O:=#[ok_line,T];exists 9,T.g_law_rule,jD
 erw[h,p,L,zs,rfl,hP,hL,hN,k];exists _,%[#[qE,(2),jD.nd,#[qX,ya,qm,#[qt,qS,hr.mono (),T.g_law_take,#v[pv 0,qm]]]],#[qE,2,(3),4,jD.nd,rfl,VL rfl,#[qX,ya,pv 2,qm],_,_],#[qE,(4),jD.nd,#[QK,#v[#[qX,Qh,qo,#[qt,QU,hr.mono (),T.g_law_word,#v[pv 0,pv 1]]],#[qX,Qh,qo,#[qt,QU,hr.mono (),T.g_law_word,#v[pv 0,pv 1]]],qo]]],#[Qa,#[YR,uK,PySem.F.slot_list_extend,PySem.F.type_list_extend,mt_extend,pv 4,#v[#[zw,["k","pot","names","many"],[0,1,3],lcsN (qj JU) ["pot","names","body","many","lines"],#[YA,#v[pv 2]],(λ_ _ _ _ _ _=>#[qV,(0),(show Vi (["k","pot","names","many"]:oj Str) by decide+kernel)]),(λ_ _ _ _ _ _=>#[qt,O,hr.mono (),T.g_law_line,#v[pv 1,pv 2,pv 3,pv 0]])]]]]|#[qu,#[qY,qU,T.Qy,vf,#v[#[qX,WO,pv 4,#[QK,#v[#[qX,Qh,qo,#[qQ,ix_str,qo,#[qt,qS,hr.mono (),T.g_law_take,#v[pv 0,qm]]]]]]]]]]]
 exists 7
 refine⟨0,p,(8),1,hP,(),(),λd1 H1 a0 a1 P1 K1=>⟨_,0,1,?_⟩⟩
 obtain⟨nb,ah,aG,aH⟩:∃nb:Nat,1+d1=(nb:Int)/\1<=nb/\nb<=8:=⟨(1+d1).toNat,(),(),()⟩
 have aa:=K1 _ _ hL (hP.ne_strs hL);dsimp only;rw [ah];clear ah a0 a1;exists 0,_,0,1;have ta:Wd 7 "text a ":=[():uh _]
 have tb:Wd 7 "text b ":=[():uh _]
 have fz:∀{n m:Nat}{x y:Str},Wd n x->Wd m y->n+m<=100->x.length+y.length<=sizeLine:=λhx U h=>fits (by have:=hx.2;have:=U.2;omega)
 refine⟨0,0,p,L,zs,1,P1,aa,hN,λz1 H5 ak P5 K5=>⟨_,0,1,fz ta ak (),?_⟩⟩
 have ac:=K5 _ _ aa (P1.ne_strs aa);refine⟨0,0,p,L,zs,1,P5,ac,hN,λz2 H6 al P6 K6=>⟨_,0,1,fz tb al (),(sml rfl),λl hl=> ?_⟩⟩
 have au:=K6 _ _ ac (P5.ne_strs ac);have am:Kept p H H6:=(K1.trans K5).trans K6;have s7:=qh hl (.lst (["text a "++z1,"text b "++z2,"row h"].map V.str));have e7:(upd H6 l (.lst (["text a "++z1,"text b "++z2,"row h"].map V.str))) l=u_ (.lst (["text a "++z1,"text b "++z2,"row h"].map V.str)):=qi;have P7:=P6.same s7;have ad:=s7 _ _ au;have K7:Kept p H (upd H6 l (.lst (["text a "++z1,"text b "++z2,"row h"].map V.str))):=am.trans (Kept.of s7);have Z:∀y∈(["text a "++z1,"text b "++z2,"row h"]:oj Str),Wd 20 y:=λy U=>by
  simp only [uB,uC,uL] at U;rcases U with rfl|rfl|rfl
  ·exact ta.cat ak ()
  ·exact tb.cat al ()
  ·exact[():()]
 show tSeq _ _ _ _ (upd H6 l (.lst (["text a "++z1,"text b "++z2,"row h"].map V.str)));generalize upd H6 l (.lst (["text a "++z1,"text b "++z2,"row h"].map V.str))=H7 at e7 P7 ad K7⊢;have aw:(["text a "++z1,"text b "++z2,"row h"]:oj Str).length=3:=rfl;generalize (["text a "++z1,"text b "++z2,"row h"]:oj Str)=th at e7 Z aw⊢;exists 0,.inl [1:_:SqL.of e7];refine⟨0,nb,1,(),(),λD hD=> ?_⟩
 have nD:D≠p:=(P7.free hD).symm;have nl:l≠p:=P7.ne_strs e7;refine JV (lo:=0) (n:=nb) (tl:= [u_ (.ref p),u_ (.ref L),u_ (.int ((nb:Int)+4))]) (λi ys H'=>∃rs:oj Str,ys=rs.map V.str/\rs.length=i/\(∀r∈rs,Wd 20 r)/\PotQ H' p/\(∀b o,H7 b=u_ o->b≠p->H' b=u_ o)) (yq ()) ⟨[],1,1,λb hb=>by simp at hb,P7.same (qh hD _),λb o e _=>qh hD _ _ _ e⟩ ?_ ?_
 ·rintro j ys H' hj ⟨rs,rfl,ao,ae,P',K'⟩ af U R hR;have ax:=K' _ _ ad (P7.ne_strs ad);refine⟨0,0,0,0,p,L,zs,nb+4,j,?_,P',ax,hN,(),(),(),λr H8 ay P8 K8=> ?_⟩
  ·rw [show(0:Int)+(j:Int)=(j:Int) by omega,show((nb+4:Nat):Int)=(nb:Int)+4 by omega]
   rfl
  ·refine hR _ H8 (K8 _ _ af nD) ⟨rs++ [r],by rw [ur];rfl,by rw [uu,ao];rfl,λb hb=> ?_,?_,λb o e np=> ?_⟩
   ·rcases A7.mp hb with h|h
    ·exact ae b h
    ·rw [vT] at h;subst h;exact ay
   ·erw[P8,x,e2,h2];exact⟨x,by rwa [qk nD.symm],h2⟩
   ·rw [qk (ql e hD)];exact K8 _ _ (K' b o e np) np
 ·rintro ys H' ⟨rs,rfl,ao,ae,P',K'⟩ af;have e8:=K' _ _ e7 nl;refine⟨l,D,_,0,1,e8,af,fits (by rw [ua,ua];omega),?_⟩
  have e9:(upd H' l (.lst (th.map V.str++rs.map V.str))) l=u_ (.lst ((th++rs).map V.str)):=by rw [qi,ur]
  have P9:PotQ (upd H' l (.lst (th.map V.str++rs.map V.str))) p:=by
   erw[P',x,e2,h2];exact⟨x,by rwa [qk nl.symm],h2⟩
  have K9:Kept p H (upd H' l (.lst (th.map V.str++rs.map V.str))):=λb o e np=>by
   rw [qk (ql (am b o e np) hl)];exact K' b o (K7 b o e np) np
  generalize upd H' l (.lst (th.map V.str++rs.map V.str))=H9 at e9 P9 K9⊢;refine⟨0,0,p,(5),1,P9,(),(),λd9 aI g0 g1 aA ap=> ?_⟩
  erw[abc_at g0 g1,c9,hc,aB];have aC:=ap _ _ e9 nl;refine⟨"abcdh",d9,c9,1,1,(),hc,_,0,1,(by show("say ":Str).length+1<=UY;decide+kernel),(sml rfl),λq1 aD=> ?_⟩
  have aq:=qh aD (.lst [.str ("say "++⟨#[c9]⟩)]);have hw:Wd 20 ("say "++⟨#[c9]⟩:Str):=Wd.cat (n:=4) (m:=1) [():uh _] aB ()
  refine⟨l,q1,_,0,1,aq _ _ aC,qi,fits (by rw [ua,uu];show _+1<=_;omega),λq2 aE=> ?_⟩
  have aF:=aq.trans (qh aE (.lst ((th++rs).map V.str++ [.str ("say "++⟨#[c9]⟩)])));refine[q2:0:.inl [SqL.of qi:λt ht=> ?_]];have ag:=aF.trans (qh ht (.tup ((th++rs).map V.str++ [.str ("say "++⟨#[c9]⟩)])));have all:∀y∈th++rs++ [("say "++⟨#[c9]⟩:Str)],Wd 20 y:=λy U=>by
   rcases A7.mp U with U|U
   ·rcases A7.mp U with U|U
    ·exact Z y U
    ·exact ae y U
   ·cases A6.mp U;exact hw
  have em:(th++rs).map V.str++ [.str ("say "++⟨#[c9]⟩)]=(th++rs++ [("say "++⟨#[c9]⟩:Str)]).map V.str:=by rw [ur (l₁:=th++rs)];rfl
  rw [em] at ag ht⊢;refine k _ _ _ (tr_row (l:=th++rs++ [("say "++⟨#[c9]⟩:Str)]) (by simp only [uu,uV];omega) all) (wN all ht) (aA.same ag) ((K9.trans ap).trans (Kept.of ag))
theorem tr_three {y:Str}(O:Wd 20 z)(U:Wd 20 y):TrOk (.tup [.tup [.str z,.tup []],.str y]):=by
 have h1:=O.2;have h2:=U.2;have Z:Qx z=true:=by unfold Qx;rw [ub (show z.length<=300 by omega)];exact O.1
 have g2:Qx y=true:=by unfold Qx;rw [ub (show y.length<=300 by omega)];exact U.1
 have e:sz (.tup [.tup [.str z,.tup []],.str y])<=300:=by simp only [sz,szL];omega
 refine⟨?_,by simp [lw,lwL,O.1,U.1],e⟩
 unfold isT;rw [ub (show sz (.tup [.tup [.str z,.tup []],.str y])<=600 by omega),ub (show dp (.tup [.tup [.str z,.tup []],.str y])<=12 by simp only [dp,dpL];omega)]
 simp [good,goodL,Z,g2]
inductive sp_srcd (vs:List V) (H:Hp) (Q:VK) (E_:XK):Prop
 |mk (p L:Addr) (zs:List Str) (_:vs= [.ref p,.ref L]) (_:PotQ H p) (_:H L=u_ (.lst (zs.map V.str))) (_:Nm4 zs) (_:∀(v:V) (d:D) (H':Hp),Z4 d->Is H' d v->PotQ H' p->Kept p H H'->Q v H')
theorem tr_src {k:Str}{d:D}(O:k="leaf"∨k="rule")(h:TrOk d):Z4 (.tup [.str k,d]):=src_leaf O h.1 h.2.1 h.2.2
theorem src_row {k:Str}{d:D}(O:k="leaf"∨k="rule")(h:TrOk d)(Z:Is H d v)(q:∀t H',Same H H'->Is H' (.tup [.str k,d]) (.ref t)->Z4 (.tup [.str k,d])->Q (.ref t) H'): [V.str k,v].length<=UY/\∀t,H t=UU->Q (.ref t) (upd H t (.tup [.str k,v])):=by
 refine[sml rfl:λt U=>q t _ (qh U _) (Is.new (ds:= [.str k,d]) ⟨_,0,[1:?_],_,0,Z,1⟩ U) (tr_src O h)];rcases O with rfl|rfl<;>decide+kernel
theorem ok_leaf (T:Tx K mg a):#[K,5,a.Wn,a.Wr,["pot","names"],sp_tre]:=by
 have qS:=#[jK,T];have QU:=#[ok_word,T];have XU:=#[ok_rule,T];exists 9,T.g_law_leaf,wK
 erw[h,p,L,zs,rfl,hP,hL,hN,k];have aa:∀{z:Str},Wd 4 z->Wd 20 z:=λh=>⟨h.1,by have:=h.2;omega⟩
 exists _,%[#[qE,(2),wK.nd,#[qt,qS,hr.mono (),T.g_law_take,#v[pv 0,qm]]],#[qI,#[qr,op_lt,pv 2,qm,qC _],%[|#[qu,#[qt,QU,hr.mono (),T.g_law_word,#v[pv 0,pv 1]]]],qy],#[qI,#[qr,QD,pv 2,qm,qC _],%[|#[qu,#[qY,qU,T.Qy,vf,#v[#[zw,["k","pot","names"],[0,1],lcsN (qj JW) ["pot","names","kind"],#[YA,#v[#[qt,qS,hr.mono (),T.g_law_take,#v[pv 0,qm]]]],(λ_ _ _ _ _ _=>#[qV,(0),(show Vi (["k","pot","names"]:oj Str) by decide+kernel)]),(λ_ _ _ _ _ _=>#[qt,QU,hr.mono (),T.g_law_word,#v[pv 1,pv 2]])]]]]],qy],#[qI,#[qr,QD,pv 2,qm,qC _],%[|#[qu,#[qG,#v[#[qG,#v[#[qt,QU,hr.mono (),T.g_law_word,#v[pv 0,pv 1]],#[qG,qf]]],#[qt,QU,hr.mono (),T.g_law_word,#v[pv 0,pv 1]]]]]],qy],#[qI,#[qr,QD,pv 2,qm,qC _],%[|#[qu,#[qt,XU,hr.mono (),T.g_law_rule,#v[pv 0,pv 1]]]],qy]|#[qu,#[qG,#v[#[qX,Qh,qo,#[qt,QU,hr.mono (),T.g_law_word,#v[pv 0,pv 1]]],qo,qo]]]]
 exists 7
 refine⟨0,p,(6),1,hP,(),(),λd1 H1 a0 a1 P1 K1=> ?_⟩
 have O:=K1 _ _ hL (hP.ne_strs hL);refine⟨0,_,0,1,0,ite2 (λ_=> ?_) (λ_=> ?_)⟩
 ·exact⟨0,0,p,L,zs,1,P1,O,hN,λz H2 hz U Z=>k _ _ H2 (tr_str (aa hz)) ⟨1,fits (by have:=hz.2;omega)⟩ U (K1.trans Z)⟩
 refine⟨0,1,0,ite2 (λ_=> ?_) (λ_=> ?_)⟩
 ·refine⟨0,p,(4),1,P1,(),(),λd2 H2 b0 b1 U Z=> ?_⟩
  have ac:=Z _ _ O (P1.ne_strs O);obtain⟨n,rfl,hn⟩:∃n:Nat,d2=(n:Int)/\n<4:=[d2.toNat:():()]
  refine⟨n,1,(),(),λD hD=> ?_⟩
  have nD:D≠p:=(U.free hD).symm;refine JV (lo:=0) (n:=n) (tl:= [u_ (.ref p),u_ (.ref L)]) (λi ys H'=>∃rs:oj Str,ys=rs.map V.str/\rs.length=i/\(∀r∈rs,Wd 20 r)/\PotQ H' p/\(∀b o,H2 b=u_ o->b≠p->H' b=u_ o)) (yq ()) ⟨[],1,1,λb hb=>by simp at hb,U.same (qh hD _),λb o e _=>qh hD _ _ _ e⟩ ?_ ?_
  ·rintro j ys H' hj ⟨rs,rfl,af,ad,P',K'⟩ ae hy R hR;have ao:=K' _ _ ac (U.ne_strs ac);refine⟨0,0,p,L,zs,1,P',ao,hN,λr H8 ap P8 K8=> ?_⟩;refine hR _ H8 (K8 _ _ ae nD) ⟨rs++ [r],by rw [ur];rfl,by rw [uu,af];rfl,λb hb=> ?_,?_,λb o e np=> ?_⟩
   ·rcases A7.mp hb with h|h
    ·exact ad b h
    ·rw [vT] at h;subst h;exact aa ap
   ·erw[P8,x,e2,h2];exact⟨x,by rwa [qk nD.symm],h2⟩
   ·rw [qk (ql e hD)];exact K8 _ _ (K' b o e np) np
  ·rintro ys H' ⟨rs,rfl,af,ad,P',K'⟩ ae;refine[D:0:.inl [SqL.of ae:λt ht=> ?_]];have s3:=qh ht (.tup (rs.map V.str));exact k _ _ _ (tr_row () ad) (wN ad ht) (P'.same s3) (λb o e np=>s3 _ _ (K' b o ((K1.trans Z) b o e np) np))
 refine⟨0,1,0,ite2 (λ_=> ?_) (λ_=> ?_)⟩
 ·refine⟨0,0,p,L,zs,1,P1,O,hN,λz1 H2 ag U Z=>[uU _:λt0 ah=>[sml rfl:λt1 ak=> ?_]]⟩;have ac:=Z _ _ O (P1.ne_strs O);have s0:=qh ah (.tup ([]:oj V));have s1:=s0.trans (qh ak (.tup [.str z1,.ref t0]));have i0:Is (upd H2 t0 (.tup [])) (.tup []) (.ref t0):=Is.new (ds:= []) rfl ah;have i1:Is (upd (upd H2 t0 (.tup [])) t1 (.tup [.str z1,.ref t0])) (.tup [.str z1,.tup []]) (.ref t1):=Is.new (ds:= [.str z1,.tup []]) ⟨_,0,⟨1,fits (by have:=ag.2;omega)⟩,_,0,i0,1⟩ ak
  generalize upd (upd H2 t0 (.tup [])) t1 (.tup [.str z1,.ref t0])=H3 at s1 i1⊢;have P3:=U.same s1;refine⟨0,0,p,L,zs,1,P3,s1 _ _ ac,hN,λz2 H4 al P4 K4=>[sml rfl:λt2 am=> ?_]⟩;have s2:=qh am (.tup [.ref t1,.str z2]);refine k _ _ _ (tr_three (aa ag) (aa al)) (Is.new (ds:= [.tup [.str z1,.tup []],.str z2]) ⟨_,0,i1.mono (P3.tk P4 K4),_,0,⟨1,fits (by have:=al.2;omega)⟩,1⟩ am) (P4.same s2) ((((K1.trans Z).trans (Kept.of s1)).trans K4).trans (Kept.of s2))
 refine⟨0,1,0,ite2 (λ_=> ?_) (λ_=> ?_)⟩
 ·exact⟨0,0,p,L,zs,1,P1,O,hN,λv d H2 hd hv U Z=>k v d H2 hd hv U (K1.trans Z)⟩
 ·have ta:Wd 7 "text a ":=[():uh _]
  refine⟨0,0,p,L,zs,1,P1,O,hN,λz H2 hz U Z=>⟨_,0,1,fits (by have:=hz.2;have:=ta.2;omega),sml rfl,λt ht=> ?_⟩⟩
  have all:∀y∈(["text a "++z,"ask b a","say b"]:oj Str),Wd 20 y:=λy hy=>by
   simp only [uB,uC,uL] at hy;rcases hy with rfl|rfl|rfl
   ·exact ta.cat hz ()
   ·exact[():()]
   ·exact[():()]
  have s2:=qh ht (.tup ((["text a "++z,"ask b a","say b"]:oj Str).map V.str));exact k _ _ _ (tr_row (by show 3<=14;decide) all) (wN all ht) (U.same s2) ((K1.trans Z).trans (Kept.of s2))
theorem ok_srcd (T:Tx K mg a):#[K,6,a.zV,a.Zd,["pot","names"],sp_srcd]:=by
 have qS:=#[jK,T];have WK:=#[ok_leaf,T];have XU:=#[ok_rule,T];have O:=#[ok_maker,T];exists 9,T.g_law_source,XJ
 erw[h,p,L,zs,rfl,hP,hL,hN,k];have ad:=hN.1;have ae:=hN.2.1;exists _,%[#[qE,(2),XJ.nd,#[qt,qS,hr.mono (),T.g_law_take,#v[pv 0,qm]]],#[qI,#[qr,op_lt,pv 2,qm,qC _],%[|#[qu,#[qG,#v[qo,#[qt,WK,hr.mono (),T.g_law_leaf,#v[pv 0,pv 1]]]]]],qy],#[qI,#[qr,op_lt,pv 2,qm,qC _],%[|#[qu,#[qG,#v[qo,#[qt,XU,hr.mono (),T.g_law_rule,#v[pv 0,pv 1]]]]]],qy],#[qI,#[qr,QD,pv 2,qm,qC _],%[|#[qu,#[qG,#v[qo,#[qt,O,hr.mono (),T.g_law_maker,#v[pv 0,pv 1]]]]]],qy],@qI _ _ _ _ _ _ _ _ #[pw_and,7,#[qr,QD,pv 2,qm,qC _],#[Ki,4,#[qr,QD,#[qt,qS,hr.mono (),T.g_law_take,#v[pv 0,qm]],qm,qC _]]].pt %[|#[qu,#[qG,#v[qo,#[qt,WK,hr.mono (),T.g_law_leaf,#v[pv 0,pv 1]]]]]] qy|#[qu,#[qG,#v[qo,#[qQ,yd,pv 1,#[qt,qS,hr.mono (),T.g_law_take,#v[pv 0,#[qz,qM,T.yE,uG,#v[pv 1]]]]]]]]]
 exists 7
 refine⟨0,p,(10),1,hP,(),(),λd1 H1 a0 a1 P1 K1=> ?_⟩
 have Z:=K1 _ _ hL (hP.ne_strs hL);have fin:∀{H3 H2:Hp}{kk:Str}{d:D}{v:V},PotQ H3 p->Kept p H H3->kk="leaf"∨kk="rule"->TrOk d->Is H2 d v->PotQ H2 p->Kept p H3 H2-> [V.str kk,v].length<=UY/\∀t,H2 t=UU->Q (.ref t) (upd H2 t (.tup [.str kk,v])):=λ{H3 H2 kk d v} P3 K3 hk hd U P2 K2=>
  src_row hk hd U λt H4 s4 i4 o4=>k _ _ H4 o4 i4 (P2.same s4) ((K3.trans K2).trans (Kept.of s4))
 refine⟨0,_,0,1,0,ite2 (λ_=> ?_) (λ_=> ?_)⟩
 ·exact⟨0,0,p,L,zs,1,P1,Z,hN,λv d H2 hd U P2 K2=>fin P1 K1 (.inl rfl) hd U P2 K2⟩
 refine⟨0,_,0,1,0,ite2 (λ_=> ?_) (λ_=> ?_)⟩
 ·exact⟨0,0,p,L,zs,1,P1,Z,hN,λv d H2 hd U P2 K2=>fin P1 K1 (.inr rfl) hd U P2 K2⟩
 refine⟨0,1,0,ite2 (λ_=> ?_) (λ_=> ?_)⟩
 ·exact⟨0,0,p,L,zs,1,P1,Z,hN,λv d H2 hd U P2 K2=>fin P1 K1 (.inr rfl) hd U P2 K2⟩
 show tSeq _ _ _ _ H1;refine qJ λN0 n0=>n0 _ _ ?_;exists 8,BB,bb;have made:∀{H3:Hp},PotQ H3 p->Kept p H H3->BB [u_ (V.ref p),u_ (V.ref L),u_ (V.int d1)] H3:=by
  intro H3 P3 K3;refine bb _ _ ?_;have aa:=K3 _ _ hL (hP.ne_strs hL);refine⟨0,0,0,L,0,.inl (SqL.of aa),p,0,P3,by rw [ua];omega,by rw [ua];omega,λd2 H4 b0 b1 P4 K4=> ?_⟩
  erw[Y1 (xs:=zs.map V.str) b0 b1,v,U];erw[A8.mp (JE U),z,hz,rfl];refine⟨L,_,_,0,1,SqL.of (K4 _ _ aa (P3.ne_strs aa)),U,sml rfl,λt ht=> ?_⟩;have s4:=qh ht (.tup [.str "made",.str z]);have ac:=hN.2.2 z hz;exact k _ _ _ (src_made ac.1) (Is.new (ds:= [.str "made",.str z]) ⟨_,0,[1:()],_,0,[1:fits ()],1⟩ ht) (P4.same s4) ((K3.trans K4).trans (Kept.of s4))
 refine⟨0,1,0,ite2 (λ_=> ?_) (λ_=> ?_)⟩
 ·refine⟨0,p,(4),1,P1,(),(),λd2 H2 b0 b1 P2 K2=>[1:0:ite2 (λ_=> ?_) (λ_=> ?_)]⟩
  ·exact⟨0,0,p,L,zs,1,P2,K2 _ _ Z (P1.ne_strs Z),hN,λv d H3 hd U P3 K3=>fin P2 (K1.trans K2) (.inr rfl) hd U P3 K3⟩
  ·exact made P2 (K1.trans K2)
 ·exact iteF (made P1 K1)
theorem SqL.keepK {K:o0}{a:o3}(e:∀o,H a=u_ o->H' a=u_ o)(h:SqL K H a xs):SqL K H' a xs:=by
 rcases h with(h|⟨o,h⟩)|h
 ·exact .inl (.inl (e _ h))
 ·exact .inl (.inr [o:e _ h])
 ·exact .inr h
theorem PrOk.perm {l m:oj (Str×D)}(h:PrOk m)(p:l.Perm m):PrOk l:=[h.1.perm (p.map _):λx O=>h.2 x (p.mem_iff.mp O)]
noncomputable def N8:oj Str:= ["a","b1","c/d","e.f","g","h9","k","m/n"]
theorem n8_ok:∀z∈N8,nm z=v_/\z.length<=4:=by decide+kernel
theorem n8_nd:N8.Nodup:=by decide+kernel
theorem cut_take {vs:oj V}:cutV vs UU (u_ (n:Int))=vs.take n:=by
 unfold cutV;rw [HT.sIx_none,HT.sIx_nat,T0,Nat.sub_zero];rcases HW n vs.length with h|h
 ·rw [TM h]
 ·rw [Nat.min_eq_right h,uZ (uh _),uZ h]
theorem ints_of {ns:oj Int}:∀{ys:oj V},(∀y∈ys,y∈ns.map V.int)->∃O:oj Int,ys=O.map V.int
 | [],_=>[[]:1]
 |y::r,h=>by
  erw[A8.mp (h y uf),i,_,e];obtain⟨O,U⟩:=ints_of (ys:=r) λz Z=>h z (uc _ Z);exact⟨i::O,by rw [U,<-e];rfl⟩
theorem sq_sm {K:o0}(h:SqL K H q xs)(s:Same H H'):SqL K H' q xs:=SqL.keepK (λo e=>s _ _ e) h
noncomputable def strI (i:Int):Str:=V3 i
noncomputable def nK (k:Nat):Str:="n"++strI (8+(k:Int))
theorem nK_ok:∀k:Nat,k<12->nm (nK k)=v_/\(nK k).length<=4:=by decide+kernel
theorem nK_nd:(N8++(V4 12).map nK).Nodup:=by decide+kernel
noncomputable def ZZ:oj Str:= ["zz"]
theorem zz_ok:nm "zz"=v_/\("zz":Str).length<=4:=by decide+kernel
noncomputable def NmU (zs:oj Str):Prop:=Nm4 zs/\zs.Nodup
theorem n8_take (h1:1<=n)(h2:n<=8):NmU (N8.take n):=by
 have e:(N8.take n).length=n:=by rw [vy];show min n 8=n;omega
 exact[[():():λz O=>n8_ok z (List.mem_of_mem_take O)]:rO (Rb _ _) n8_nd]
variable {j:Nat}
theorem nK_all (h:j<=12):NmU (N8++(V4 j).map nK):=by
 refine⟨⟨by rw [uu];show 1<=8+_;omega,by rw [uu,ua,FK];show 8+j<=20;omega,λz O=> ?_⟩,rO (Rc (f_ _) (RB _ (List.range_sublist.mpr h))) nK_nd⟩
 rcases A7.mp O with h1|h1
 ·exact n8_ok z h1
 ·erw[A8.mp h1,k,U,rfl];exact nK_ok k (by have:=List.mem_range.mp U;omega)
inductive sp_alln (K:PySem.W.Frag) (vs:List V) (H:Hp) (Q:VK) (E_:XK):Prop
 |mk (q:Addr) (ns:List Int) (_:vs= [.ref q]) (_:SqL K H q (ns.map V.int)) (_:∀(L:Addr) (zs:List Str) (H':Hp),Same H H'->H' L=u_ (.lst (zs.map V.str))->NmU zs->Q (.ref L) H')
inductive sp_link (vs:List V) (H:Hp) (Q:VK) (E_:XK):Prop
 |mk (p L:Addr) (zs:List Str) (j:Int) (_:vs= [.ref p,.ref L,.int j]) (_:0<=j) (_:j<=1000) (_:PotQ H p) (_:H L=u_ (.lst (zs.map V.str))) (_:Nm4 zs) (_:∀(v:V) (d:D) (H':Hp),Z4 d->Is H' d v->PotQ H' p->Kept p H H'->Q v H')
inductive sp_lprs (K:PySem.W.Frag) (vs:List V) (H:Hp) (Q:VK) (E_:XK):Prop
 |mk (q:Addr) (ns:List Int) (_:vs= [.ref q]) (_:SqL K H q (ns.map V.int)) (_:∀(L:Addr) (ps:List (Str×D)) (us:List V) (H':Hp),Same H H'->H' L=u_ (.lst us)->L2.IsL H' (ps.map prD) us->PrOk ps->(∀p∈ps,p.1.length<=4)->ps.length<=20->Q (.ref L) H')
inductive sp_drawn (K:PySem.W.Frag) (vs:List V) (H:Hp) (Q:VK) (E_:XK):Prop
 |mk (q:Addr) (ns:List Int) (st:Int) (n:Nat) (_:vs= [.ref q,.int st,.int (n:Int)]) (_:SqL K H q (ns.map V.int)) (_:0<=st) (_:st<1000) (_:n<=100) (_:∀(L:Addr) (zs:List Str) (H':Hp),Same H H'->H' L=u_ (.lst (zs.map V.str))->(∀z∈zs,nm z=v_/\z.length<=4)->zs.length<=n->Q (.ref L) H')
theorem ok_alln (T:Tx K mg a):#[K,2,a.Jj,a.JC,["script"],(sp_alln K)]:=by
 have Q1:=#[ok_cell,T];exists 9,T.g_law_all_names,Yk
 erw[h,q,ns,rfl,hq,k];have hs:=uA;exists _,%[#[qE,(1),Yk.nd,#[qt,Q1,hr.mono (),T.g_law_cell_at,#v[pv 0,qm]]],#[qE,(2),Yk.nd,#[QK,#v[qo,qo,qo,qo,qo,qo,qo,qo]]],#[qI,#[qr,QD,#[qX,jQ,#[qX,kh,pv 1,qm],qm],qm,qC _],%[|#[qu,#[qX,WO,pv 2,#[zw,["k"],[],lcs0,#[pi_range2,7,_,T.jG,#v[qm,#[qX,ya,qm,#[qX,jQ,#[qX,kh,pv 1,qm],qm]]],_,_],(λ_ _ _ _ _ _=>#[qV,(0),(show Vi (["k"]:oj Str) by decide+kernel)]),(λ_ _ _ _ _ _=>#[qX,Qh,qo,#[qY,YY,T.zn,Us,#v[pv 0]]])]]]],qy]|#[qu,#[Zx,10,sl_list,pv 2,kE,#[wm,#[qX,ya,qm,#[qX,jQ,pv 1,qm]]]]]]
 exists 7
 exists 8,N1,q1;refine⟨0,q,ns,(0),1,(),hq,λc=>q1 _ _ ?_⟩
 exists 8,N2,q2;refine[sml rfl:λl0 U=>q2 _ _ ?_];have Z:=qh U (.lst (N8.map V.str));have e0:(upd H l0 (.lst (N8.map V.str))) l0=u_ (.lst (N8.map V.str)):=qi;show tSeq _ _ _ _ (upd H l0 (.lst (N8.map V.str)));generalize upd H l0 (.lst (N8.map V.str))=H0 at Z e0⊢;exists 8,N3,q3;refine⟨0,_,0,1,[():()],_,0,1,(by show(0:Int)<8;decide),1,0,ite2 (λ_=> ?_) (λ_=>q3 _ _ ?_)⟩
 ·have m1:0<=c/64%12/\c/64%12<12:=[U0 _ ():vJ _ ()]
  refine⟨0,0,_,0,1,[():()],_,0,1,(by show(0:Int)<12;decide),_,0,1,_,0,⟨(),(),(),()⟩,λD hD=> ?_⟩
  obtain⟨j,hj,aa⟩:∃j:Nat,(9+c/64%12-8).toNat=j/\j<=12:=[0:()]
  rw [hj];refine JV (lo:=8) (n:=j) (tl:= []) (λi ys H'=>ys=((V4 i).map nK).map V.str/\Same H0 H') (yq ()) [1:qh hD _] ?_ ?_
  ·rintro i ys H' hi ⟨rfl,s1⟩ O hy R hR;have hn:=nK_ok i ()
   have ac:(8+(i:Int)).natAbs.log2<1920:=Ud (UR _) ()
   refine⟨0,0,ac,_,0,1,?_,?_⟩
   ·have:=hn.2;rw [<-app_len];exact fits (uO this ())
   ·refine hR _ H' O ⟨?_,λb o e=>by rw [qk (ql e hD)];exact s1 b o e⟩
    rw [Hq,ur,ur]
    rfl
  ·rintro ys H' ⟨rfl,s1⟩ O;have e1:=s1 _ _ e0;erw[nK_all aa,n1,n2];refine⟨l0,D,_,0,1,e1,O,?_,λt ht=> ?_⟩
   ·rw [ua,ua,<-uu];exact fits (by have:=n1.2.1;omega)
   ·refine k t (N8++(V4 j).map nK) _ ((Z.trans s1).trans (qh ht _)) ?_ [n1:n2];rw [qi,ur]
 ·have m1:0<=c%8/\c%8<8:=[U0 _ ():vJ _ ()]
  obtain⟨n,hn,ad,ae⟩:∃n:Nat,1+c%8=(n:Int)/\1<=n/\n<=8:=⟨(1+c%8).toNat,(),(),()⟩
  refine⟨0,0,_,0,1,(by show(0:Int)<8;decide),_,0,1,?_⟩
  dsimp only;rw [hn];refine⟨0,l0,0,SqL.of e0,λl hl=> ?_⟩;rw [cut_take,<-List.map_take];exact k l (N8.take n) _ (Z.trans (qh hl _)) qi (n8_take ad ae)
theorem ok_link (T:Tx K mg a):#[K,2,a.WJ,a.ke,["pot","names","k"],sp_link]:=by
 have qS:=#[jK,T];exists 9,T.g_law_link,ZA
 erw[h,p,L,zs,j,rfl,ad,ae,hP,hL,hN,k];have ac:=hP.ne_strs hL;exists _,%[#[qE,(3),ZA.nd,#[qQ,yd,pv 1,#[qX,jQ,#[qX,ya,#[qX,ya,pv 2,qm],#[qt,qS,hr.mono (),T.g_law_take,#v[pv 0,qm]]],#[qz,qM,T.yE,uG,#v[pv 1]]]]]|#[qu,#[qG,#v[qo,#[qG,#v[#[qX,Qh,qo,pv 3],qo,qo]]]]]]
 exists 7
 refine⟨0,0,_,0,1,0,p,(3),1,hP,(),(),λd1 H1 a0 a1 P1 K1=> ?_⟩
 have U:=K1 _ _ hL ac;have Z:0<((zs.map V.str).length:Int):=by rw [ua];have:=hN.1;omega
 exists _,0,1,0,L,0,.inl (SqL.of U),_,0,1,Z;erw[Y1 (xs:=zs.map V.str) (i:=(j+1+d1)%((zs.map V.str).length:Int)) (U0 _ ()) (vJ _ Z),x1,aa]
 erw[A8.mp (JE aa),z,hz,rfl];exists L,_,_,0,1,SqL.of U,aa;have O:=hN.2.2 z hz;have ta:Wd 7 "text a ":=[():uh _]
 have wz:Wd 4 z:=[nm_all O.1:O.2];refine⟨0,_,0,1,fits (by have:=O.2;have:=ta.2;omega),sml rfl,λt ht=> ?_⟩
 have all:∀y∈(["text a "++z,"ask b a","say b"]:oj Str),Wd 20 y:=λy hy=>by
  simp only [uB,uC,uL] at hy;rcases hy with rfl|rfl|rfl
  ·exact ta.cat wz ()
  ·exact[():()]
  ·exact[():()]
 have s2:=qh ht (.tup ((["text a "++z,"ask b a","say b"]:oj Str).map V.str));exact src_row (.inr rfl) (tr_row (by show 3<=14;decide) all) (wN all ht) λt2 H2 s3 i3 h3=>k _ _ H2 h3 i3 ((P1.same s2).same s3) ((K1.trans (Kept.of s2)).trans (Kept.of s3))
theorem ok_lsrcs (T:Tx K mg a):#[K,7,a.Xs,a.XO,["script"],(sp_lprs K)]:=by
 have YK:=#[ok_alln,T];have Z:=#[ok_link,T];have qS:=#[jK,T];have Jb:=#[ok_potQ,T];have Jh:=#[ok_srcd,T];exists 9,T.g_law_sources,QT
 erw[h,q,ns,rfl,hq,k];have hs:=uA;exists _,%[#[qE,(1),QT.nd,#[qt,YK,hr.mono (),T.g_law_all_names,#v[pv 0]]],#[qE,(2),QT.nd,#[QK,qf]],#[jV,#[YA,#v[#[qz,qM,T.yE,uG,#v[pv 1]]]],#[qV,(3),QT.nd],%[#[qE,(4),QT.nd,#[qz,#[call_sumL,1,rfl],T.z_sum,boot_sum,#v[#[pe_stepLV,9,pv 0,#[wm,#[qX,ya,qm,pv 3]],#[qz,#[call_max2,1,rfl],T.z_max,boot_max,#v[qm,#[qz,qM,T.yE,uG,#v[pv 1]]]],_]]]],#[qE,(5),QT.nd,#[qt,Jb,hr.mono (),T.g_law_pot,#v[pv 4,pv 3]]]|@qI _ _ _ _ _ _ _ _ #[pw_and,7,#[qr,kz,#[qz,qM,T.yE,uG,#v[pv 1]],qm,qC _],#[Ki,4,#[qr,QD,#[qt,qS,hr.mono (),T.g_law_take,#v[pv 5,qm]],qm,qC _]]].pt %[|#[Qa,#[YR,uK,vh,vi,Yc,pv 2,#v[#[qG,#v[#[qQ,yd,pv 1,pv 3],#[qt,Z,hr.mono (),T.g_law_link,#v[pv 5,pv 1,pv 3]]]]]]]] %[|#[qI,#[qr,op_ne,#[qX,jQ,pv 4,qm],qm,qC _],%[|#[Qa,#[YR,uK,vh,vi,Yc,pv 2,#v[#[qG,#v[#[qQ,yd,pv 1,pv 3],#[qt,Jh,hr.mono (),T.g_law_source,#v[pv 5,pv 1]]]]]]]],qy]]]]|#[qu,pv 2]]
 exists 7
 exists 8,N1,q1;refine⟨0,q,ns,1,hq,λl zs H1 s1 e1 hU=>q1 _ _ ?_⟩;erw[hU,hN,aC];exists 8,N2,q2;refine[uU _:λL hL=>q2 _ _ ?_];exists 8,N3,q3;have s2:=s1.trans (qh hL (.lst ([]:oj V)));have aD:H L=none:=s1.free hL;have aE:l≠L:=ql e1 hL;have e2:=qh hL (.lst ([]:oj V)) _ _ e1;have eL:(upd H1 L (.lst [])) L=u_ (.lst []):=qi;generalize upd H1 L (.lst [])=H2 at s2 e2 eL⊢;have aJ:=hN.2.1;exists 0,l,0,.inl (SqL.of e2),zs.length,by rw [ua],(),()
 let J_:Nat->L2.St->Hp->Prop:=λi σ H'=>∃(ps:oj (Str×D)) (us:oj V) (x3 x4 x5:om V),σ= [u_ (.ref q),u_ (.ref l),u_ (.ref L),x3,x4,x5]/\Same H H'/\H' l=u_ (.lst (zs.map V.str))/\H' L=u_ (.lst us)/\L2.IsL H' (ps.map prD) us/\(ps.map (·.1)).Sublist (zs.take i)/\∀p∈ps,Z4 p.2
 refine ZW (n:=zs.length) J_ ⟨[],[],UU,UU,UU,1,s2,e2,eL,1,List.nil_sublist _,λp hp=>by simp at hp⟩ ?_ ?_
 ·rintro i σ H' hi ⟨ps,us,x3,x4,x5,rfl,sm,el,ao,ah,O,ac⟩;have aK:ps.length<=20:=by
   have h1:=O.length_le;rw [ua,vy] at h1;omega
  have aF:=ah.length;rw [ua] at aF;have aL:((zs.map V.str).length:Int)=(zs.length:Int):=by rw [ua]
  show tSeq _ _ _ _ H';exists 8,B1,b1;refine⟨0,0,_,0,1,0,0,l,0,.inl (SqL.of el),_,0,0,(by split<;>omega),q,0,sq_sm hq sm,λys y0 _ ax aG=> ?_⟩
  erw[ints_of ax,ms,rfl];have sy:=qh aG (.lst (ms.map V.int));have ey:(upd H' y0 (.lst (ms.map V.int))) y0=u_ (.lst (ms.map V.int)):=qi;have af:=sy _ _ ao;have ag:=sy _ _ el;generalize upd H' y0 (.lst (ms.map V.int))=H3 at sy ey af ag⊢;have al:=ah.mono sy.tk;have ay:=sm.trans sy;refine⟨y0,ms,1,SqL.of ey,b1 _ _ ?_⟩;exists 8,B2,b2;refine⟨0,0,_,0,(),(),λp H4 hp s4 P4=>b2 _ _ ?_⟩
  have aa:=s4 _ _ ag;have ap:=s4 _ _ af;have aq:L≠p:=ql af hp;have ad:l≠p:=ql ag hp;have au:i<zs.length:=hi;have aw:atI (zs.map V.str) (0+(i:Int))=u_ (V.str zs[i]):=by
   rw [show(0:Int)+(i:Int)=((i:Nat):Int) by omega]
   exact Ql (by rw [uF,ug au];rfl)
  have hz:=hN.2.2 _ (uQ au);have put:∀(v:V) (d:D) (H5:Hp) (x3 x4 x5:om V),Z4 d->Is H5 d v->Kept p H4 H5->∀t,H5 t=UU->rAppend (.ref L) [.ref t] (upd H5 t (.tup [.str zs[i],v])) (λ_ H1=>J_ (i+1) [u_ (.ref q),u_ (.ref l),u_ (.ref L),x3,x4,x5] H1):=by
   intro v d H5 x3 x4 x5 hd hv U t ht;have ae:Same H3 H5:=U.same s4 hp;have st:=qh ht (.tup [.str zs[i],v]);have aA:Is (upd H5 t (.tup [.str zs[i],v])) (prD (zs[i],d)) (.ref t):=Is.new (ds:= [.str zs[i],d]) ⟨_,0,[1:fits ()],_,0,hv,1⟩ ht
   generalize upd H5 t (.tup [.str zs[i],v])=H6 at st aA⊢;have ak:=ae.trans st;have aB:=ak _ _ af;exists L,us,0,1,aB,()
   have tk:Tk H6 (upd H6 L (.lst (us++ [.ref t]))):=Tk.updL aB;refine⟨ps++ [(zs[i],d)],us++ [.ref t],_,_,0,λb o e=> ?_,?_,qi,?_,?_,λp' aH=> ?_⟩
   ·rw [qk (ql e aD)];exact ak _ _ (ay _ _ e)
   ·rw [qk aE];exact ak _ _ ag
   ·rw [ur];exact((al.mono ak.tk).mono tk).append (L2.IsL.one (aA.mono tk))
   ·rw [take1 au,ur];exact O.append (f_ _)
   ·rcases A7.mp aH with h|h
    ·exact ac p' h
    ·cases A6.mp h;exact hd
  have am:∀(H5:Hp) (x3 x4 x5:om V),Kept p H4 H5->J_ (i+1) [u_ (.ref q),u_ (.ref l),u_ (.ref L),x3,x4,x5] H5:=λH5 x3 x4 x5 U=>by
   have ae:Same H3 H5:=U.same s4 hp;exact⟨ps,us,_,_,0,ay.trans ae,ae _ _ ag,ae _ _ af,al.mono ae.tk,O.trans (by rw [take1 hi];exact List.sublist_append_left _ _),ac⟩
  exists 0,l,0,.inl (SqL.of aa),_,0,1,0;by_cases c8:(8:Int)<((zs.map V.str).length:Int)
  ·refine iteB (ub c8) ?_;refine⟨0,p,(3),1,P4,(),(),λd5 H5 a5 b5 P5 U=>[1:0:?_]⟩
   by_cases c3:d5=0
   ·refine iteB (ub (by rw [c3])) ?_
    exists 0,.inl [1:_:SqL.of (U _ _ ap aq)],0,0,l,_,_,V.str zs[i],1,1,SqL.of (U _ _ aa ad),aw;exact⟨0,0,0,p,l,zs,0,(),(),P5,U _ _ aa ad,hN,λv d H6 hd hv P6 K6=>[sml rfl:put v d H6 _ _ _ hd hv (U.trans K6)]⟩
   ·refine iteN (ud (λz=>c3 (V.int.inj z))) ?_;refine⟨0,_,0,1,(by show(0:Int)<11;decide),1,0,ite2 (λ_=> ?_) (λ_=>am _ _ _ _ U)⟩
    exists 0,.inl [1:_:SqL.of (U _ _ ap aq)],0,0,l,_,_,V.str zs[i],1,1,SqL.of (U _ _ aa ad),aw;exact⟨0,0,p,l,zs,1,P5,U _ _ aa ad,hN,λv d H6 hd hv P6 K6=>[sml rfl:put v d H6 _ _ _ hd hv (U.trans K6)]⟩
  ·refine iteN (ud c8) ?_;have U:=Kept.refl p H4;have P5:=P4;refine⟨0,_,0,1,(by show(0:Int)<11;decide),1,0,ite2 (λ_=> ?_) (λ_=>am _ _ _ _ U)⟩
   exists 0,.inl [1:_:SqL.of (U _ _ ap aq)],0,0,l,_,_,V.str zs[i],1,1,SqL.of (U _ _ aa ad),aw;exact⟨0,0,p,l,zs,1,P5,U _ _ aa ad,hN,λv d H6 hd hv P6 K6=>[sml rfl:put v d H6 _ _ _ hd hv (U.trans K6)]⟩
 ·rintro σ H' ⟨ps,us,x3,x4,x5,rfl,sm,el,ao,ah,O,ac⟩;rw [U6] at O;have aI:=O.length_le;rw [ua] at aI;refine q3 _ _ ?_;exact[0:k L ps us H' sm ao ah [[λz hz=>(hN.2.2 z (O.mem hz)).1:aC.sublist O]:ac] (λp hp=>(hN.2.2 _ (O.mem (Fo hp))).2) ()]
theorem ok_wide (T:Tx K mg a):#[K,3,a.jW,a.jU,["script"],(sp_alln K)]:=by
 have Z:=#[ok_alln,T];exists 9,T.g_law_wide_names,jf
 erw[h,q,ns,rfl,hq,k];exists _,%[#[qE,(1),jf.nd,#[qt,Z,hr.mono (),T.g_law_all_names,#v[pv 0]]],#[qI,#[qr,op_lt,#[qz,qM,T.yE,uG,#v[pv 1]],qm,qC _],%[|#[qu,#[QK,#v[qo,qo,qo,qo,qo,qo,qo,qo]]]],qy]|#[qu,pv 1]]
 exists 7
 refine⟨0,q,ns,1,hq,λl zs H1 s1 U hU=> ?_⟩;refine⟨0,l,0,.inl (SqL.of U),_,0,1,0,ite2 (λ_=> ?_) (λ_=>[0:k l zs H1 s1 U hU])⟩;refine[sml rfl:λl0 O=> ?_];exact k l0 N8 _ (s1.trans (qh O _)) qi (n8_take (n:=8) () ())
theorem ok_drawn (T:Tx K mg a):#[K,4,a.jq,a.jk,["script","salt","many"],(sp_drawn K)]:=by
 have Zr:=#[ok_wide,T];have qS:=#[jK,T];have Jb:=#[ok_potQ,T];exists 9,T.g_law_drawn_names,yI
 erw[h,q,ns,st,n,rfl,hq,h0,h1,hn,k];have hs:=uA;exists _,%[#[qE,2,(3),4,yI.nd,rfl,VL rfl,#[qt,Jb,hr.mono (),T.g_law_pot,#v[#[qz,#[call_sumL,1,rfl],T.z_sum,boot_sum,#v[pv 0]],pv 1]],_,_],#[qE,2,(4),4,yI.nd,rfl,VL rfl,#[qX,WO,#[qt,Zr,hr.mono (),T.g_law_wide_names,#v[pv 0]],#[QK,#v[qo]]],_,_]|#[qu,#[zw,["k","names","pot"],[4,3],lcsN (qj Q3) ["script","salt","many","pot","names"],#[YA,#v[pv 2]],(λ_ _ _ _ _ _=>#[qV,(0),(show Vi (["k","names","pot"]:oj Str) by decide+kernel)]),(λ_ _ _ _ _ _=>#[qQ,#[ix_listK,1,K,rfl],pv 1,#[qt,qS,hr.mono (),T.g_law_take,#v[pv 2,#[qz,#[Kb,1,K,rfl],T.yE,uG,#v[pv 1]]]]])]]]
 exists 7
 exists 8,N1,q1;refine⟨0,q,ns,1,hq,0,_,0,h0,h1,λp H1 ae s1 P1=>q1 _ _ ?_⟩;exists 8,N2,q2;refine⟨0,q,ns,1,sq_sm hq s1,λl zs H2 s2 e2 hU=> ?_⟩;refine[sml rfl:λl3 h3=> ?_];have s3:=qh h3 (.lst [V.str "zz"]);have hl:=hU.1.2.1;refine⟨l,l3,_,0,1,s3 _ _ e2,qi,(by rw [ua];show _+1<=UY;omega),λl4 h4=>q2 _ _ ?_⟩
 have s4:=qh h4 (.lst (zs.map V.str++ [V.str "zz"]));have e4:upd (upd H2 l3 (.lst [V.str "zz"])) l4 (.lst (zs.map V.str++ [V.str "zz"])) l4=u_ (.lst ((zs++ZZ).map V.str)):=by
  rw [qi,ur]
  rfl
 have O:=(s2.trans s3).trans s4;have P4:=P1.same O;have hz:∀z∈zs++ZZ,nm z=v_/\z.length<=4:=λz hz=>by
  rcases A7.mp hz with h|h
  ·exact hU.1.2.2 z h
  ·cases A6.mp h;exact zz_ok
 have ah:(zs++ZZ).length=zs.length+1:=uu;generalize upd (upd H2 l3 (.lst [V.str "zz"])) l4 (.lst (zs.map V.str++ [V.str "zz"]))=H4 at e4 O P4⊢;have aa:=P4.ne_strs e4;refine⟨0,0,(),(),λD hD=> ?_⟩
 have nD:D≠p:=(P4.free hD).symm;have af:H p=none:=ae;refine JV (lo:=0) (n:=n) (tl:= [u_ (.ref l4),u_ (.ref p)]) (λi ys H'=>∃rs:oj Str,ys=rs.map V.str/\rs.length<=i/\(∀r∈rs,nm r=v_/\r.length<=4)/\PotQ H' p/\(∀b o,H4 b=u_ o->b≠p->H' b=u_ o)) (yq ()) ⟨[],1,uU _,(λb hb=>by simp at hb),P4.same (qh hD _),λb o e _=>qh hD _ _ _ e⟩ ?_ ?_
 ·rintro i ys H' hi ⟨rs,rfl,ac,U,P',K'⟩ Z hy R hR;have e5:=K' _ _ e4 aa;refine⟨0,0,0,l4,0,.inl (SqL.of e5),p,0,P',(by rw [ua];omega),(by rw [ua];omega),λd6 H6 a6 b6 P6 K6=> ?_⟩
  erw[Y1 (xs:=(zs++ZZ).map V.str) (i:=d6) a6 b6,x1,ad];erw[A8.mp (JE ad),z,ag,rfl];exists l4,_,_,0,1,SqL.of (K6 _ _ e5 aa),ad;refine hR _ H6 (K6 _ _ Z nD) ⟨rs++ [z],by rw [ur];rfl,(by rw [uu,uV];omega),λb hb=> ?_,?_,λb o e np=> ?_⟩
  ·rcases A7.mp hb with h|h
   ·exact U b h
   ·rw [vT] at h;subst h;exact hz b ag
  ·erw[P6,x,e2,h2];exact⟨x,by rwa [qk nD.symm],h2⟩
  ·rw [qk (ql e hD)];exact K6 _ _ (K' b o e np) np
 ·rintro ys H' ⟨rs,rfl,ac,U,P',K'⟩ Z;exact k D rs H' (λb o e=>K' b o (O _ _ (s1 _ _ e)) (ql e af)) Z U ac
inductive sp_badl (vs:List V) (H:Hp) (Q:VK) (E_:XK):Prop
 |mk (v:V) (d:D) (_:vs= [v]) (_:Is H d v) (_:∀(u:V) (H':Hp),Same H H'->((Q2 d).isSome=v_->u= .non)->((Q2 d).isSome=UV->u≠ .non)->Q u H')
inductive sp_isrule (vs:List V) (H:Hp) (Q:VK) (E_:XK):Prop
 |mk (v:V) (d:D) (_:vs= [v]) (_:Is H d v) (_:∀H',Same H H'->Q (.bl (Q2 d).isSome) H')
theorem ok_badl (T:Tx K mg a)(C:Fx K w mg g a):#[K,4,a.Wu,a.WQ,["tree"],sp_badl]:=by
 have Z:=#[ok_read,T,C];exists 9,T.g_bad_line,sc_bad_line
 erw[h,v,d,rfl,hv,k];exists _,%[|#[qu,#[qQ,qP,#[qt,Z,hr.mono (),T.g_read_lines,#v[pv 0]],qm]]]
 exists 7
 refine⟨0,v,d,1,hv,λu H' x y s' U hu=> ?_⟩;erw[hu,p,ws,rfl,hp,w1,r1,rfl,h1,w2,r2,rfl,h2,h3];cases(show r2= [] from h3)
 refine⟨p,_,_,0,1,SqT.of hp,1,k _ H' s' (λe=> ?_) (λe=> ?_)⟩
 ·erw[Xr e,rs,O];erw[U.1 rs O,_,rfl];exact h2
 ·have hn:Q2 d=none:=by
   cases hh:Q2 d with
   |none=>rfl
   |some rs=>rw [hh] at e;cases e
  erw[U.2 hn,i,rfl];intro z;rw [z] at h2;cases(show V.non= .int i from h2)
theorem ok_isrule (T:Tx K mg a)(C:Fx K w mg g a):#[K,5,a.f_is_rule,a.d_is_rule,["value"],sp_isrule]:=by
 have O:=#[ok_badl,T,C];exists 9,T.g_is_rule,sc_is_rule,U
 erw[h,v,d,rfl,Z,k];exists _,%[|#[qu,#[YE,YO,#[qt,O,U.mono (),T.g_bad_line,#v[pv 0]],Qb,qC _]]]
 exists 7
 refine⟨0,v,d,1,Z,λu H' s' h1 h2=>[1:?_]⟩;have e:decide (u=V.non)=(Q2 d).isSome:=by
  cases c:(Q2 d).isSome with
  |true=>rw [h1 c];rfl
  |false=>exact ud (h2 c)
 have:=k H' s';rwa [<-e] at this
end
theorem rows_of {n:Nat}:∀{ds:oj D},(∀d∈ds,(Qk n d).isSome=v_)->(ds.filterMap (Qk n)).length=ds.length/\ds=(ds.filterMap (Qk n)).map (λr=>D.str (y8 r))/\∀r∈ds.filterMap (Qk n),j3 n 300 r
 | [],_=>[1:1:λr h=>nomatch h]
 |d::ds,h=>by
  erw[Xr (h d uf),r,O];obtain⟨h1,h2,h3⟩:=rows_of (n:=n) (ds:=ds) λx U=>h x (uc _ U);have hd:d= .str (y8 r)/\j3 n 300 r:=by
   cases d with
   |str z=>
    obtain⟨Z,a2⟩:=rowOf_ok (show ZL n z=u_ r from O)
    exact⟨by rw [a2],Z⟩
   |non=>cases O
   |bl b=>cases O
   |int i=>cases O
   |lst=>cases O
   |dct=>cases O
   |tup xs=>cases O
  rw [vZ O];refine⟨by rw [ui,ui,h1],by rw [uq,<-h2,hd.1],λx U=> ?_⟩
  rcases A5.mp U with rfl|U
  ·exact hd.2
  ·exact h3 x U
variable {rs:oj Rw}
theorem wH {d:D}(h:Q2 d=u_ rs):d=xV rs/\Q9 rs:=by
 cases d with
 |tup ds=>
  rw [Xh] at h;split at h
  ·rename_i O
   simp only [uw,v9] at O;erw[O,[[c1,c2],U],Z];cases h;erw[rows_of (List.all_eq_true.mp U),h1,h2,h3];have e:D.tup ds=xV (ds.filterMap (Qk ds.length)):=by
    unfold xV;rw [<-h2]
   refine⟨e,⟨(),(),?_,by rwa [<-e]⟩⟩
   rwa [h1]
  ·cases h
 |non=>cases h
 |bl b=>cases h
 |int i=>cases h
 |str z=>cases h
 |lst=>cases h
 |dct=>cases h
noncomputable def GMT:oj Str:= ["begin","look","wanted","take","full"]
structure GFl (fs:oj (Str×V))(nv ov mv av rv ev:V):Prop where
 zH:fs.lookup ("name":Str)=u_ nv
 ZV:fs.lookup ("order":Str)=u_ ov
 Yw:fs.lookup ("made_by":Str)=u_ mv
 yQ:fs.lookup ("rule_asks":Str)=u_ av
 Qs:fs.lookup ("rule_run":Str)=u_ rv
 f_end:fs.lookup ("end":Str)=u_ ev
 meth:∀m∈GMT,fs.lookup m=UU
 len:fs.length<=20
section
variable {fs:oj (Str×V)}{nv ov mv av rv ev:V}
theorem GFl.set_made_by {u:V}(h:GFl fs nv ov mv av rv ev):GFl (putF "made_by" u fs) nv ov u av rv ev:=by
 refine⟨?_,?_,?_,?_,?_,?_,λm hm=> ?_,by rw [YV h.Yw];exact h.len⟩
 all_goals rw [qH]
 all_goals first|rw [A3 rfl]|(rw [A2 ()];first|exact h.zH|exact h.ZV|exact h.Yw|exact h.yQ|exact h.Qs|exact h.f_end)|(rw [A2 (λe=>by subst e;revert hm;decide+kernel)];exact h.meth m hm)
theorem GFl.set_rule_asks {u:V}(h:GFl fs nv ov mv av rv ev):GFl (putF "rule_asks" u fs) nv ov mv u rv ev:=by
 refine⟨?_,?_,?_,?_,?_,?_,λm hm=> ?_,by rw [YV h.yQ];exact h.len⟩
 all_goals rw [qH]
 all_goals first|rw [A3 rfl]|(rw [A2 ()];first|exact h.zH|exact h.ZV|exact h.Yw|exact h.yQ|exact h.Qs|exact h.f_end)|(rw [A2 (λe=>by subst e;revert hm;decide+kernel)];exact h.meth m hm)
theorem GFl.set_rule_run {u:V}(h:GFl fs nv ov mv av rv ev):GFl (putF "rule_run" u fs) nv ov mv av u ev:=by
 refine⟨?_,?_,?_,?_,?_,?_,λm hm=> ?_,by rw [YV h.Qs];exact h.len⟩
 all_goals rw [qH]
 all_goals first|rw [A3 rfl]|(rw [A2 ()];first|exact h.zH|exact h.ZV|exact h.Yw|exact h.yQ|exact h.Qs|exact h.f_end)|(rw [A2 (λe=>by subst e;revert hm;decide+kernel)];exact h.meth m hm)
theorem GFl.set_end {u:V}(h:GFl fs nv ov mv av rv ev):GFl (putF "end" u fs) nv ov mv av rv u:=by
 refine⟨?_,?_,?_,?_,?_,?_,λm hm=> ?_,by rw [YV h.f_end];exact h.len⟩
 all_goals rw [qH]
 all_goals first|rw [A3 rfl]|(rw [A2 ()];first|exact h.zH|exact h.ZV|exact h.Yw|exact h.yQ|exact h.Qs|exact h.f_end)|(rw [A2 (λe=>by subst e;revert hm;decide+kernel)];exact h.meth m hm)
end
structure Gc where
 (x o:o3)
 n:Str
structure Gs where
 mb:D
 ra:oj D
 run:om (Mc×Rn)
 en:D
noncomputable def Wg (CM:o3)(H:Hp)(x:o3)(rv:V):om (Mc×Rn)->Prop
 |none=>rv= .non
 |some (m,r)=>rv= .ref m.x/\m.x≠x/\Ye CM H m r
noncomputable def GoAt (C CM:o3)(H:Hp)(g:Gc)(s:Gs):Prop:=
 ∃(dx:o3) (fs:oj (Str×V)) (mv av rv ev:V),H g.x=u_ (.ins C dx fs)/\GFl fs (.str g.n) (.ref g.o) mv av rv ev/\Is H s.mb mv/\Is H (.tup s.ra) av/\Wg CM H g.x rv s.run/\Is H s.en ev
variable {CM:o3}
theorem Wg.same {x:o3}{o:om (Mc×Rn)}(h:Wg CM H x rv o)(s:Same H H'):Wg CM H' x rv o:=by
 cases o with
 |none=>exact h
 |some p=>exact[h.1:h.2.1:h.2.2.same s]
theorem GoAt.same {g:Gc}{s:Gs}(h:GoAt C CM H g s)(sm:Same H H'):GoAt C CM H' g s:=by
 erw[h,dx,fs,mv,av,rv,ev,e,f,i,j,k,l];exact⟨dx,fs,mv,av,rv,ev,sm _ _ e,f,i.mono sm.tk,j.mono sm.tk,k.same sm,l.mono sm.tk⟩
theorem Ye.put {m:Mc}{r:Rn}{x:o3}{fs:oj (Str×V)}(h:Ye CM H m r)(e:H x=u_ (.ins C dx fs))(n:m.x≠x):Ye CM (upd H x (.ins C dx fs')) m r:=by
 erw[h,U,Z,rv,ru,tv,gv,e1,f,i,j,b,O,gl,t];have tk:Tk H (upd H x (.ins C dx fs')):=Tk.updI e;have n1:m.db≠x:=Yq.ne e b;have n2:m.dg≠x:=λz=>by rw [z,e] at O;cases O
 exact⟨U,Z,rv,ru,tv,gv,by rwa [qk n],f,i.mono tk,j.mono tk,b.move tk (qk n1),by rwa [qk n2],gl.mono tk,t.mono tk⟩
theorem Wg.put {x:o3}{fs:oj (Str×V)}{o:om (Mc×Rn)}(h:Wg CM H x rv o)(e:H x=u_ (.ins C dx fs)):Wg CM (upd H x (.ins C dx fs')) x rv o:=by
 cases o with
 |none=>exact h
 |some p=>exact[h.1:h.2.1:h.2.2.put e h.2.1]
structure Gv (g:Gc)(H H':Hp):Prop where
 kept:∀b o,H b=u_ o->b≠g.x->H' b=u_ o
 tk:Tk H H'
theorem ka {g:Gc}{fs:oj (Str×V)}{mv av ev:V}{s:Gs}(e:H g.x=u_ (.ins C dx fs))(f:GFl fs' (.str g.n) (.ref g.o) mv av rv ev)(i:Is H s.mb mv)(j:Is H (.tup s.ra) av)(k:Wg CM H g.x rv s.run)(l:Is H s.en ev):
  GoAt C CM (upd H g.x (.ins C dx fs')) g s/\Gv g H (upd H g.x (.ins C dx fs')):=by
 have tk:Tk H (upd H g.x (.ins C dx fs')):=Tk.updI e;exact⟨⟨dx,fs',mv,av,rv,ev,qi,f,i.mono tk,j.mono tk,k.put e,l.mono tk⟩,⟨λb o h n=>by rwa [qk n],tk⟩⟩
noncomputable def lookS (s:Gs)(r:Rn):Gs:=if QO r.th=v_ then s else{s with en:=r.th}
inductive sp_look (C CM:Addr) (vs:List V) (H:Hp) (Q:VK) (E_:XK):Prop
 |mk (g:Gc) (s:Gs) (m:Mc) (r:Rn) (_:vs= [.ref g.x]) (_:GoAt C CM H g s) (_:s.run=u_ (m,r)) (_:Th r.th) (_:∀H',Gv g H H'->GoAt C CM H' g (lookS s r)->Q .non H')
section
variable {P:o9}{w:og}{K:o0}{mg:Str->om o6}{base:o8}{a:Ad}{g:Ga}
theorem ok_look (T:Tx K mg a):#[K,2,a.zU,a.zD,["self"],(sp_look a.qK a.qp)]:=by
 have Qp:=#[ok_wait,T];have jH:=#[ok_now,T];exists 9,T.g_Going_look,Kf
 erw[h,g,st,m,r,rfl,hG,O,aa,k];exists _,%[|#[qI,#[Qz,#[Qq,#[yc,#[qN,5,pv 0,rfl],T.qw,T.g_Machine_is_waiting,Qp]]],%[|#[Qd,#[yc,#[qN,5,pv 0,rfl],T.qw,T.g_Machine_now,jH]]],qy]]
 exists 7
 erw[id hG,dx,fs,mv,av,rv,ev,e,f,i,j,hR,l];rw [O] at hR;erw[hR,rfl,hn,Z];erw[id Z,dm,fm,ac,ru,tv,gv,em,U,i1,i2,i3,i4,i5,i6];exists 0,g.x,_,dx,fs,0,e,T.qR,T.qW,f.Qs,m.x,dm,fm,1,em,U.meth _ (),m,r,1,Z,aa,0
 cases c:QO r.th with
 |true=>
  refine iteF (k H [λ_ _ h _=>h:Tk.refl H] ?_);unfold lookS;rwa [A3 c]
 |false=>
  refine iteT ?_;refine⟨0,g.x,_,dx,fs,0,e,T.qR,T.qW,f.Qs,m.x,dm,fm,1,em,U.meth _ (),m,r,1,Z,λv hv=> ?_⟩
  refine⟨0,g.x,_,dx,fs,1,e,T.qR,T.QY,by have:=f.len;omega,?_⟩
  have hS:lookS st r={st with en:=r.th}:=by
   unfold lookS;rw [c];exact A2 u9
  obtain⟨m1,m2⟩:=ka (CM:=a.qp) (s:={st with en:=r.th}) e (f.set_end (u:=v)) i j (by rw [O];exact[1:hn:Z]) hv
  refine k _ m2 ?_;rw [hS];exact m1
inductive sp_runner (CM:Addr) (vs:List V) (H:Hp) (Q:VK) (E_:XK):Prop
 |mk (o:Addr) (v:V) (rs:List Rw) (own:Str) (_:vs= [.ref o,v,.str own]) (_:Is H (xV rs) v) (_:Q9 rs) (_:nm own=v_) (_:∀(mc:Mc) (H':Hp),Same H H'->H mc.x=UU->H mc.db=UU->H mc.dg=UU->mc.rs=rs->mc.own=own->Ye CM H' mc (runS rs own [] 300 B0 1 0)->Q (.ref mc.x) H')
theorem ok_runner (T:Tx K mg a)(C:Fx K w mg g a):#[K,8,a.YN,a.Ys,["self","rule","own"],(sp_runner a.qp)]:=by
 have Wj:=#[ok_minit,T,C];exists 9,T.g_PlainOrder_runner,JX
 erw[h,o,v,rs,own,rfl,hv,hR,hn,k];have hl:=wE hn;have hI:∀H:Hp,Is H (.str own) (.str own):=λH=>Jd ()
 exists _,%[|#[qu,#[zm,T.M_Machine,Wj,hr.mono (),T.m_Machine,T.g_Machine_init,passF,#v[pv 1,pv 2]]]]
 exists 7
 refine[0:0:λx dx Z aa nx=> ?_];have U:Same H (upd (upd H dx (.own x)) x (.ins a.qp dx [])):=λb o h=>by rwa [qk (ql h Z),qk (ql h aa)]
 refine⟨x,dx,v,.str own,xV rs,.str own,1,qi,hv.mono U.tk,hI _,λz=> ?_,λ_ z=> ?_,λO af e1 ac e2 ag ah H' db dg kept ad ae hM=>[1:?_]⟩
 ·rw [hR.read] at z;cases z
 ·have:isNm (.str own)=true:=hn;rw [this] at z;cases z
 ·have e3:O=rs:=by
   have h1:=hR.read;rw [e1,ac.read] at h1;exact uH h1
  cases e2;subst e3;exact k ⟨x,db,dg,O,own⟩ H' (λb o h=>kept b o (U b o h) (ql h Z)) Z (U.free ad) (U.free ae) rfl rfl hM
noncomputable def R0 (rs:oj Rw)(n:Str):Rn:=runS rs n [] 300 B0 1 0
structure BegOk (H:Hp)(g:Gc)(d:D)(s s':Gs):Prop where
 mb:s'.mb=s.mb
 ra:s'.ra=s.ra
 lack:d= .non->s'.run=UU/\s'.en=flt "lack"
 rule:d≠ .non->Q2 d=UU->s'.run=UU/\s'.en=flt "rule"
 go:∀rs,Q2 d=u_ rs->∃mc:Mc,H mc.x=UU/\H mc.db=UU/\H mc.dg=UU/\mc.rs=rs/\mc.own=g.n/\s'.run=u_ (mc,R0 rs g.n)/\s'.en=if QO (R0 rs g.n).th=v_ then s.en else(R0 rs g.n).th
inductive sp_begin (C CM CO:Addr) (vs:List V) (H:Hp) (Q:VK) (E_:XK):Prop
 |mk (g:Gc) (s:Gs) (v:V) (d:D) (_:vs= [.ref g.x,v]) (_:GoAt C CM H g s) (_:s.run=UU) (_:nm g.n=v_) (_:Is H d v) (_:(∃dx fs,H g.o=u_ (.ins CO dx fs)/\fs.lookup ("runner":Str)=UU)) (_:∀H' s',Gv g H H'->GoAt C CM H' g s'->BegOk H g d s s'->Q .non H')
theorem R0_ok {n:Str}(h:Q9 rs):RnOk rs (R0 rs n):=runS_ok h 300 B0 1 0 [] rfl B0_tr () (by have:=h.n0;omega) ⟨1,by simp [dpL],uh _⟩
theorem R0_th {n:Str}(h:Q9 rs):Th (R0 rs n).th:= .inr (R0_ok h).two
theorem ok_begin (T:Tx K mg a)(C:Fx K w mg g a):#[K,9,a.Xl,a.XE,["self","rule"],(sp_begin a.qK a.qp a.qq)]:=by
 have O:=#[ok_isrule,T,C];have xo:=#[ok_runner,T,C];have Js:=#[ok_look,T];exists 9,T.g_Going_begin,w8
 erw[h,g,st,v,d,rfl,hG,U,hn,hv,[ad,ae,ho,af],k];have hs:=uA;erw[id hG,dx,fs,mv,av,rv,ev,e,f,i,j,hR,l];rw [U] at hR;exists _,%[|#[qI,#[qr,YO,pv 1,Qb,qC _],%[|#[Qd,#[qG,#v[qo,qo]]]],%[|#[qI,#[Qz,#[Qq,#[qt,O,hr.mono (),T.g_is_rule,#v[pv 1]]]],%[|#[Qd,#[qG,#v[qo,qo]]]],%[#[Qd,#[Qm,#[qN,5,pv 0,rfl],T.qx,T.g_PlainOrder_runner,xo,#v[pv 1,#[qN,5,pv 0,rfl]]]]|#[Qa,#[yc,pv 0,T.qR,T.g_Going_look,Js]]]]]]]
 exists 7
 exists 0,1,0;have fl:∀(z:Str) (H:Hp) (l:o3),z.length<=100->H l=UU->Is (upd H l (.tup [.str "fault",.str z])) (flt z) (.ref l):=λz H l hz hl=>Is.new (ds:= [.str "fault",.str z]) ⟨_,0,Jd (),_,0,Jd (),1⟩ hl
 have aa:fs.length<1000:=by have:=f.len;omega
 have put:∀(z:Str) (t:o3) (H':Hp),z.length<=100->Same H H'->H' t=UU->((d= .non->z="lack")/\(d≠ .non->z="rule"/\Q2 d=UU))->Q .non (upd (upd H' t (.tup [.str "fault",.str z])) g.x (.ins a.qK dx (putF "end" (.ref t) fs))):=λz t H' hz s' ht hd=>by
  have s1:=s'.trans (qh ht (.tup [.str "fault",.str z]));obtain⟨m1,m2⟩:=ka (CM:=a.qp) (g:=g) (s:={st with en:=flt z}) (s1 _ _ e) (f.set_end (u:= .ref t)) (i.mono s1.tk) (j.mono s1.tk) (by show Wg _ _ _ _ st.run;rwa [U]) (fl z H' t hz ht)
  refine k _ _ [λb o h n=>m2.kept b o (s1 b o h) n:s1.tk.trans m2.tk] m1 ⟨1,1,λh=>⟨U,by rw [hd.1 h]⟩,λh _=>⟨U,by rw [(hd.2 h).1]⟩,λrs h=> ?_⟩
  by_cases c:d= .non
  ·rw [c] at h;cases h
  ·rw [(hd.2 c).2] at h;cases h
 by_cases c:d= .non
 ·subst c;cases(show v= .non from hv)
  refine iteB (ub rfl) [(sml rfl):λt ht=> ?_];exists 0,g.x,_,dx,fs,1,(qh ht _) _ _ e,T.qR,T.QY,aa;exact put "lack" t H () (Same.refl _) ht [λ_=>rfl:λh=>absurd rfl h]
 ·refine iteN (ud (zk hv c)) ?_;refine⟨0,v,d,1,hv,λH1 s1=>[0:?_]⟩;cases hd:Q2 d with
  |none=>
   refine iteT [(sml rfl):λt ht=> ?_];exists 0,g.x,_,dx,fs,1,(qh ht _) _ _ (s1 _ _ e),T.qR,T.QY,aa;exact put "rule" t H1 () s1 ht [λh=>absurd h c:λ_=>[1:hd]]
  |some rs=>
   refine iteF ?_;erw[wH hd,ed,ac];have e1:=s1 _ _ e;refine⟨0,g.x,_,dx,fs,0,e1,T.qR,T.XB,f.ZV,g.o,ad,ae,1,s1 _ _ ho,af,0,0,g.x,_,dx,fs,0,e1,T.qR,T.Yd,f.zH,g.o,v,rs,g.n,1,by rw [<-ed];exact hv.mono s1.tk,ac,hn,λmc H2 s2 nx nb ng ag ah hM=> ?_⟩
   have e2:=s2 _ _ e1;have Z:=s1.trans s2;exists 0,g.x,_,dx,fs,1,e2,T.qR,T.qW,aa;have ak:mc.x≠g.x:=(ql e1 nx).symm;erw[ka (C:=a.qK) (CM:=a.qp) (g:=g) (s:={st with run:=u_ (mc,R0 rs g.n)}) e2 (f.set_rule_run (u:= .ref mc.x)) (i.mono Z.tk) (j.mono Z.tk) [1:ak:hM] (l.mono Z.tk),m1,m2]
   erw[id m1,al,am,_,_,_,_,e3,f3,_];refine⟨0,g.x,al,am,1,e3,f3.meth _ (),g,_,mc,R0 rs g.n,1,m1,1,R0_th ac,λH3 v3 G3=>k H3 _ [λb o h n=>v3.kept b o (m2.kept b o (Z b o h) n) n:(Z.tk.trans m2.tk).trans v3.tk] G3 ?_⟩
   unfold lookS;refine⟨by split<;>rfl,by split<;>rfl,λh=>absurd h c,(λ_ h=>by rw [hd] at h;cases h),λao h=> ?_⟩
   rw [hd] at h;cases h;refine⟨mc,s1.free nx,s1.free nb,s1.free ng,ag,ah,by split<;>rfl,?_⟩
   split<;>rfl
inductive Xw (C CM:Addr) (vs:List V) (H:Hp) (Q:VK) (E_:XK):Prop
 |mk (g:Gc) (s:Gs) (_:vs= [.ref g.x]) (_:GoAt C CM H g s) (_:((s.run=UU/\∃z,s.mb= .str z/\∀v H',Same H H'->Is H' (.tup [.str "rule",.str z]) v->Q v H')∨∃mc r d,s.run=u_ (mc,r)/\r.th= .tup [.str "asks",d]/\∀v,Is H d v->Q v H))
noncomputable def runG:om (Mc×Rn)->oj D
 |none=> []
 |some (_,r)=>r.gs
noncomputable def fullD (s:Gs):D:= .tup [.tup (s.ra++runG s.run),s.en]
inductive sp_full (C CM:Addr) (vs:List V) (H:Hp) (Q:VK) (E_:XK):Prop
 |mk (g:Gc) (s:Gs) (_:vs= [.ref g.x]) (_:GoAt C CM H g s) (_:s.ra.length+(runG s.run).length<=1000) (_:∀v H',Same H H'->Is H' (fullD s) v->Q v H')
variable {v:V}{Q:VK}
theorem catG_is {K:o0}{xs ys:oj D}{u:V}(O:Is H (.tup xs) v)(U:Is H (.tup ys) u)(hl:xs.length+ys.length<=1000)(k:∀p H',Same H H'->Is H' (.tup (xs++ys)) p->Q p H'):rCatG K v u H Q:=by
 obtain⟨a,vs,rfl,ha,Z⟩:=(show∃a vs,v= .ref a/\H a=u_ (.tup vs)/\L2.IsL H xs vs from O)
 obtain⟨b,us,rfl,hb,ib⟩:=(show∃a vs,u= .ref a/\H a=u_ (.tup vs)/\L2.IsL H ys vs from U)
 have la:=Z.length;have lb:=ib.length;have hs:=uA;refine⟨a,b,vs,us,1,1,SqT.of ha,SqT.of hb,(),λe=> ?_,λ_ e=> ?_,λ_ _ p hp=> ?_⟩
 ·have:xs= []:=List.length_eq_zero_iff.mp (by rw [e] at la;simpa using la.symm)
  rw [this] at k;exact k _ H (Same.refl _) U
 ·have:ys= []:=List.length_eq_zero_iff.mp (by rw [e] at lb;simpa using lb.symm)
  rw [this,v6] at k;exact k _ H (Same.refl _) O
 ·have n:=qh hp (.tup (vs++us));exact k _ _ n ⟨p,0,qi,(Z.append ib).mono n.tk⟩
theorem ok_wanted (T:Tx K mg a):#[K,2,a.J3,a.xg,["self"],(Xw a.qK a.qp)]:=by
 have jH:=#[ok_now,T];exists 9,T.g_Going_wanted,ZN
 erw[h,g,st,rfl,hG,h];have hs:=uA;erw[id hG,dx,fs,mv,av,rv,ev,e,f,i,j,U,l];exists _,%[#[qI,#[qr,YO,#[qN,5,pv 0,rfl],Qb,qC _],%[|#[qu,#[qG,#v[qo,#[qN,5,pv 0,rfl]]]]],qy]|#[qu,#[qQ,Xq,#[yc,#[qN,5,pv 0,rfl],T.qw,T.g_Machine_now,jH],qm]]]
 exists 7
 exists 0,g.x,_,dx,fs,0,e,T.qR,T.qW,f.Qs,1,0;rcases h with⟨O,z,hz,k⟩|⟨mc,r,d,O,Z,k⟩
 ·rw [O] at U;cases(show rv= .non from U)
  rw [hz] at i;obtain⟨rfl,hl⟩:=(show mv= .str z/\z.length<=UY from i)
  refine iteB (ub rfl) ⟨0,g.x,_,dx,fs,0,e,T.qR,T.yL,f.Yw,(sml rfl),λt ht=> ?_⟩;exact k _ _ (qh ht _) (Is.new ⟨_,0,Jd (),_,0,[1:hl],1⟩ ht)
 ·rw [O] at U;erw[U,rfl,hn,hM];erw[id hM,dm,fm,ac,ru,tv,gv,em,aa,i1,i2,i3,i4,i5,i6];refine iteN (ud (λz=>by cases z)) ?_
  refine⟨0,g.x,_,dx,fs,0,e,T.qR,T.qW,f.Qs,mc.x,dm,fm,1,em,aa.meth _ (),mc,r,1,hM,λv hv=> ?_⟩
  rw [Z] at hv;exact .inr (.inl (xS (i:=1) (d:=d) hv (Ql (j:=1) rfl) λq hq=>k q hq))
theorem ok_full (T:Tx K mg a):#[K,2,a.zG,a.zQ,["self"],(sp_full a.qK a.qp)]:=by
 have wI:=#[ok_asks,T];exists 9,T.g_Going_full,XT
 erw[h,g,st,rfl,hG,hl,k];have hs:=uA;erw[id hG,dx,fs,mv,av,rv,ev,e,f,i,j,Z,l];exists _,%[#[qE,(1),XT.nd,#[yb,#[qr,YO,#[qN,5,pv 0,rfl],Qb,qC _],#[qG,qf],#[yc,#[qN,5,pv 0,rfl],T.qw,T.g_Machine_asked,wI]]]|#[qu,#[qG,#v[#[qX,kC,#[qN,5,pv 0,rfl],pv 1],#[qN,5,pv 0,rfl]]]]]
 exists 7
 have fin:∀(v:V) (H1:Hp),Same H H1->Is H1 (.tup (runG st.run)) v->tFld K (tVar 0) "rule_asks" [u_ (.ref g.x),u_ v] H1 λx H2=>tVar 1 [u_ (.ref g.x),u_ v] H2 λy H3=>rCatG K x y H3 λz H4=>tFld K (tVar 0) "end" [u_ (.ref g.x),u_ v] H4 λu H5=> [z,u].length<=UY/\∀p,H5 p=UU->Q (.ref p) (upd H5 p (.tup [z,u])):=λv H1 s1 hv=>by
  exists 0,g.x,_,dx,fs,0,s1 _ _ e,T.qR,T.yR,f.yQ,0;refine catG_is (j.mono s1.tk) hv hl λz H4 s4 i4=> ?_;have U:=s1.trans s4;refine⟨0,g.x,_,dx,fs,0,U _ _ e,T.qR,T.QY,f.f_end,(sml rfl),λp hp=> ?_⟩;have n:=qh hp (.tup [z,ev]);exact k _ _ (U.trans n) (Is.new ⟨_,0,i4,_,0,l.mono U.tk,1⟩ hp)
 exists 0,g.x,_,dx,fs,0,e,T.qR,T.qW,f.Qs,1,0;cases O:st.run with
 |none=>
  rw [O] at Z fin;cases(show rv= .non from Z)
  refine iteB (ub rfl) [(sml rfl):λt ht=> ?_];exact fin _ _ (qh ht _) (Is.new (ds:= []) rfl ht)
 |some p=>
  erw[p,mc,r];rw [O] at Z fin;erw[Z,rfl,hn,hM];erw[id hM,dm,fm,ac,ru,tv,gv,em,aa,i1,i2,i3,i4,i5,i6];refine iteN (ud (λz=>by cases z)) ?_
  refine⟨0,g.x,_,dx,fs,0,e,T.qR,T.qW,f.Qs,mc.x,dm,fm,1,em,aa.meth _ (),mc,r,1,hM,λv H1 s1 hv=> ?_⟩
  exact fin v H1 s1 hv
structure Gw (g:Gc)(o:om (Mc×Rn))(H H':Hp):Prop where
 kept:∀b ob,H b=u_ ob->b≠g.x->(∀mc r,o=u_ (mc,r)->b≠mc.x/\b≠mc.db/\b≠mc.dg)->H' b=u_ ob
 tk:Tk H H'
inductive XC (C CM CO:Addr) (vs:List V) (H:Hp) (Q:VK) (E_:XK):Prop
 |mk (g:Gc) (s:Gs) (v:V) (d:D) (_:vs= [.ref g.x,v]) (_:GoAt C CM H g s) (_:nm g.n=v_) (_:Is H d v) (_:g.o≠g.x) (_:(∃dx fs,H g.o=u_ (.ins CO dx fs)/\fs.lookup ("runner":Str)=UU)) (_:((s.run=UU/\∃z,s.mb= .str z/\∀H' s',Gw g s.run H H'->GoAt C CM H' g s'->BegOk H g d {s with ra:= [.tup [.tup [.str "rule",.str z],d]]} s'->Q .non H')∨∃mc r u q,s.run=u_ (mc,r)/\mc.own=g.n/\Q9 mc.rs/\RnOk mc.rs r/\r.th= .tup [.str "asks",.tup [.str u,q]]/\ansB u d=v_/\∀H',Gw g s.run H H'->GoAt C CM H' g (lookS {s with run:=u_ (mc,ansS mc.rs mc.own r d)} (ansS mc.rs mc.own r d))->Q .non H'))
theorem go_mv {g:Gc}{s:Gs}{mc:Mc}{r O:Rn}(h:GoAt C CM H g s)(Z:s.run=u_ (mc,r))(v:Mv mc H H')(hM:Ye CM H' mc O):GoAt C CM H' g {s with run:=u_ (mc,O)}:=by
 erw[h,dx,fs,mv,av,rv,ev,e,f,i,j,k,l];rw [Z] at k;erw[k,rfl,hn,hm];erw[id hm,dm,fm,aa,ru,tv,gv,em,ac,i1,i2,i3,U,i5,i6];have n1:g.x≠mc.db:=(Yq.ne e i3).symm;have n2:g.x≠mc.dg:=λz=>by rw [<-z,e] at U;cases U
 exact⟨dx,fs,mv,av,_,ev,v.kept _ _ e hn.symm n1 n2,f,i.mono v.tk,j.mono v.tk,[1:hn:hM],l.mono v.tk⟩
theorem ok_gtake (T:Tx K mg a)(C:Fx K w mg g a):#[K,10,a.Zg,a.Zc,["self","answer"],(XC a.qK a.qp a.qq)]:=by
 have jC:=#[ok_begin,T,C];have Js:=#[ok_look,T];have Zq:=#[ok_ans,T,C];exists 9,T.g_Going_take,Kx
 erw[h,U,st,v,d,rfl,hG,hn,hv,am,[ao,ap,ho,aq],h];have hs:=uA;erw[id hG,dx,fs,mv,av,rv,ev,e,f,i,j,hR,l];exists _,%[|#[qI,#[qr,YO,#[qN,5,pv 0,rfl],Qb,qC _],%[#[Qd,#[qG,#v[#[qG,#v[#[qG,#v[qo,#[qN,5,pv 0,rfl]]],pv 1]]]]]|#[Qa,#[Qm,pv 0,T.qR,T.g_Going_begin,jC,#v[pv 1]]]],%[#[Qa,#[Qm,#[qN,5,pv 0,rfl],T.qw,T.g_Machine_answer,Zq,#v[pv 1]]]|#[Qa,#[yc,pv 0,T.qR,T.g_Going_look,Js]]]]]
 exists 7
 exists 0,U.x,_,dx,fs,0,e,T.qR,T.qW,f.Qs,1,0;rcases h with⟨O,z,hz,k⟩|⟨mc,r,u,q,O,au,ad,ae,af,Z,k⟩
 ·rw [O] at hR;cases(show rv= .non from hR)
  refine iteB (ub rfl) ?_;rw [hz] at i;obtain⟨rfl,hl⟩:=(show mv= .str z/\z.length<=UY from i)
  have aw:fs.length<1000:=by have:=f.len;omega
  refine⟨0,U.x,_,dx,fs,0,e,T.qR,T.yL,f.Yw,(sml rfl),λt1 ag=> ?_⟩;have m1:=qh ag (.tup [V.str "rule",V.str z]);have k1:Is (upd H t1 (.tup [V.str "rule",V.str z])) (.tup [.str "rule",.str z]) (.ref t1):=Is.new ⟨_,0,Jd (),_,0,[1:hl],1⟩ ag
  refine[0:(sml rfl):λt2 ah=> ?_];have m2:=qh ah (.tup [V.ref t1,v]);have k2:=Is.new (ds:= [.tup [.str "rule",.str z],d]) ⟨_,0,k1,_,0,hv.mono m1.tk,1⟩ ah;refine[(sml rfl):λt3 ak=> ?_];have m3:=qh ak (.tup [V.ref t2]);have k3:=Is.new (ds:= [.tup [.tup [.str "rule",.str z],d]]) ⟨_,0,k2,1⟩ ak;have s3:=(m1.trans m2).trans m3;exists 0,U.x,_,dx,fs,1,s3 _ _ e,T.qR,T.yR,aw;have iz:Is H (.str z) (.str z):=[1:hl];obtain⟨p1,p2⟩:=ka (C:=a.qK) (CM:=a.qp) (g:=U) (s:={st with ra:= [.tup [.tup [.str "rule",.str z],d]]}) (s3 _ _ e) (f.set_rule_asks (u:= .ref t3)) (by show Is _ st.mb _;rw [hz];exact iz.mono s3.tk) k3 (by show Wg _ _ _ _ st.run;rw [O];rfl) (l.mono s3.tk)
  erw[id p1,aa,ac,_,_,_,_,e3,f3,_];have al:=s3.tk.trans p2.tk;refine⟨0,U.x,aa,ac,1,e3,f3.meth _ (),0,U,_,v,d,1,p1,O,hn,hv.mono al,⟨ao,ap,p2.kept _ _ (s3 _ _ ho) am,aq⟩,λH4 s4 v4 G4 b4=>k H4 s4 [λb ob h n _=>v4.kept b ob (p2.kept b ob (s3 b ob h) n) n:al.trans v4.tk] G4 ⟨b4.mb,b4.ra,b4.lack,b4.rule,λrs h=> ?_⟩⟩
  erw[b4.go rs h,mc,c1,c2,c3,c4];have fr:∀b,upd (upd (upd (upd H t1 (.tup [V.str "rule",V.str z])) t2 (.tup [V.ref t1,v])) t3 (.tup [V.ref t2])) U.x (.ins a.qK dx (putF "rule_asks" (.ref t3) fs)) b=UU->H b=none:=λb hb=>by
   cases hc:H b with
   |none=>rfl
   |some ob=>
    by_cases c:b=U.x
    ·rw [c,qi] at hb;cases hb
    ·rw [p2.kept b ob (s3 b ob hc) c] at hb;cases hb
  exact⟨mc,fr _ c1,fr _ c2,fr _ c3,c4⟩
 ·rw [O] at hR;erw[hR,rfl,aA,hM];erw[id hM,dm,fm,aB,ru,tv,gv,em,ax,i1,i2,i3,i4,i5,i6];refine iteN (ud (λz=>by cases z)) ?_
  have ay:mc.own.length<=100:=by rw [au];have:=wE hn;omega
  refine⟨0,U.x,_,dx,fs,0,e,T.qR,T.qW,f.Qs,mc.x,dm,fm,1,em,ax.meth _ (),0,mc,r,v,u,q,d,1,hM,ae,af,hv,ad,ay,Z,λH1 v1 M1=> ?_⟩
  ·have G1:=go_mv hG O v1 M1;erw[id G1,aa,ac,_,_,_,_,e3,f3,_];have hok:=ansS_ok (own:=mc.own) ad ae (by rw [af];show decide (("asks":Str)="asks")=v_;exact ub rfl) (ansB_ok Z)
   refine⟨0,U.x,aa,ac,1,e3,f3.meth _ (),U,_,mc,0,G1,1,.inr hok.two,λH2 v2 G2=>k H2 [λb ob h n1 n2=>v2.kept b ob (v1.kept b ob h (n2 mc r O).1 (n2 mc r O).2.1 (n2 mc r O).2.2) n1:v1.tk.trans v2.tk] G2⟩
noncomputable def gfs (n:Str)(o t:o3):oj (Str×V):= [("name",.str n),("order",.ref o),("made_by",.non),("rule_asks",.ref t),("rule_run",.non),("end",.non)]
theorem gfs_ok (n:Str)(o t:o3):GFl (gfs n o t) (.str n) (.ref o) .non (.ref t) .non .non:=by
 refine⟨1,1,1,1,1,1,?_,(by show 6<=20;decide)⟩
 intro m hm;simp only [GMT,uB,uC,uL] at hm;rcases hm with rfl|rfl|rfl|rfl|rfl<;>rfl
noncomputable def s0G:Gs:=⟨.non,[],UU,.non⟩
inductive sp_ginit (C CM CO:Addr) (vs:List V) (H:Hp) (Q:VK) (E_:XK):Prop
 |mk (x dx o:Addr) (n k:Str) (sv:V) (e:D) (_:vs= [.ref x,.str n,sv,.ref o]) (_:H x=u_ (.ins C dx [])) (_:Is H (.tup [.str k,e]) sv) (_:nm n=v_) (_:o≠x) (_:(∃dx fs,H o=u_ (.ins CO dx fs)/\fs.lookup ("runner":Str)=UU)) (_:∀H' s',(∀b ob,H b=u_ ob->b≠x->H' b=u_ ob)->Tk H H'->GoAt C CM H' ⟨x,o,n⟩ s'->(k="made"->s'={s0G with mb:=e})->(k≠"made"->BegOk H ⟨x,o,n⟩ e s0G s')->Q .non H')
theorem gen1 {x:o3}{fs:oj (Str×V)}{P:Hp->Prop}(e:H x=u_ (.ins C dx fs))(h:∀H1,H1 x=u_ (.ins C dx fs')->(∀b ob,H b=u_ ob->b≠x->H1 b=u_ ob)->Tk H H1->P H1):P (upd H x (.ins C dx fs')):=h _ qi (λb ob h n=>by rwa [qk n]) (Tk.updI e)
theorem ok_ginit (T:Tx K mg a)(C:Fx K w mg g a):#[K,10,a.JL,a.Ze,["self","name","source","order"],(sp_ginit a.qK a.qp a.qq)]:=by
 have jC:=#[ok_begin,T,C];exists 9,T.g_Going_init,Ko
 erw[h,x,dx,o,n,k,sv,d,rfl,hx,aa,hn,nox,[ac,ad,ho,ae],q];have hs:=uA;exists _,%[#[Qd,pv 1],#[Qd,pv 3],#[Qd,Qb],#[Qd,#[qG,qf]],#[Qd,Qb],#[Qd,Qb]|#[qI,#[qr,QD,#[qQ,qP,pv 2,qm],qo,qC _],%[|#[Qd,#[qQ,qP,pv 2,qm]]],%[|#[Qa,#[Qm,pv 0,T.qR,T.g_Going_begin,jC,#v[#[qQ,qP,pv 2,qm]]]]]]]
 exists 7
 exists 0,0,x,_,dx,0,hx,T.qR,T.Yd,()
 refine gen1 (P:=tSeq _ _ _ _) hx λH1 x1 k1 t1=> ?_;refine⟨0,0,x,_,dx,0,x1,T.qR,T.XB,by show 1<1000;decide,?_⟩
 refine gen1 (P:=tSeq _ _ _ _) x1 λH2 x2 k2 t2=> ?_;refine⟨0,x,_,dx,0,x2,T.qR,T.yL,by show 2<1000;decide,?_⟩
 refine gen1 (P:=tSeq _ _ _ _) x2 λH3 x3 k3 t3=> ?_;refine[sml rfl:λt ht=> ?_];have nxt:=(ql x3 ht).symm;have s4:=qh ht (.tup ([]:oj V));refine⟨0,x,_,dx,0,s4 _ _ x3,T.qR,T.yR,by show 3<1000;decide,?_⟩
 refine gen1 (P:=tSeq _ _ _ _) (s4 _ _ x3) λH5 x5 k5 t5=> ?_;refine⟨0,x,_,dx,0,x5,T.qR,T.qW,by show 4<1000;decide,?_⟩
 refine gen1 (P:=tSeq _ _ _ _) x5 λH6 x6 k6 t6=> ?_;refine⟨0,x,_,dx,0,x6,T.qR,T.QY,by show 5<1000;decide,?_⟩
 refine gen1 (P:=λH=>_) x6 λZ O k7 t7=> ?_;have kp:∀b ob,H b=u_ ob->b≠x->Z b=u_ ob:=λb ob h nb=>k7 b ob (k6 b ob (k5 b ob (s4 b ob (k3 b ob (k2 b ob (k1 b ob h nb) nb) nb)) nb) nb) nb;have U:=(((((t1.trans t2).trans t3).trans s4.tk).trans t5).trans t6).trans t7;have O:Z x=u_ (.ins a.qK dx (gfs n o t)):=O;have eT:Z t=u_ (.tup ([]:oj V)):=k7 _ _ (k6 _ _ (k5 _ _ qi nxt) nxt) nxt;have i0:Is Z (.tup []) (.ref t):=⟨t,[],1,eT,1⟩;have G0:GoAt a.qK a.qp Z ⟨x,o,n⟩ s0G:=⟨dx,_,_,_,_,_,O,gfs_ok n o t,1,i0,1,1⟩;have af:=aa.mono U;erw[af,p,ws,rfl,hp,w1,r1,rfl,[rfl,ag],w2,r2,rfl,h2,h3];cases(show r2= [] from h3)
 exists 0,p,_,_,0,1,SqT.of hp,1,1,0;by_cases ck:k="made"
 ·refine iteB (ub (by rw [ck])) ⟨0,p,_,_,0,1,SqT.of hp,1,0,x,_,dx,0,O,T.qR,T.yL,(by show 6<1000;decide),?_⟩
  erw[ka (C:=a.qK) (CM:=a.qp) (g:=[x:o:n]) (s:={s0G with mb:=d}) O ((gfs_ok n o t).set_made_by (u:=w2)) h2 i0 rfl rfl,p1,p2]
  exact q _ _ (λb ob h nb=>p2.kept b ob (kp b ob h nb) nb) (U.trans p2.tk) p1 (λ_=>rfl) λz=>absurd ck z
 ·refine iteN (ud (λz=>ck (V.str.inj z))) ?_;refine⟨0,x,dx,0,O,(gfs_ok n o t).meth _ (),0,p,_,_,0,1,SqT.of hp,1,[x:o:n],s0G,w2,d,1,G0,1,hn,h2,⟨ac,ad,kp _ _ ho nox,ae⟩,λH8 s8 v8 G8 b8=>q H8 s8 (λb ob h nb=>v8.kept b ob (kp b ob h nb) nb) (U.trans v8.tk) G8 (λz=>absurd z ck) λ_=>⟨b8.mb,b8.ra,b8.lack,b8.rule,λrs h=> ?_⟩⟩
  erw[b8.go rs h,mc,c1,c2,c3,c4];have fr:∀b,Z b=UU->H b=none:=λb hb=>by
   cases hc:H b with
   |none=>rfl
   |some ob=>
    by_cases c:b=x
    ·rw [c,O] at hb;cases hb
    ·rw [kp b ob hc c] at hb;cases hb
  exact⟨mc,fr _ c1,fr _ c2,fr _ c3,c4⟩
noncomputable def Xz:D->D
 | .non=> .tup [.str "lack"]
 | .tup [.str k,e]=>if k="leaf" then .tup [.str "value",e] else .non
 |_=> .non
noncomputable def Qt:D->D
 | .tup [.str k,e]=>if k="said" then .tup [.str "value",e] else .tup [.str k,e]
 |d=>d
inductive sp_once (vs:List V) (H:Hp) (Q:VK) (E_:XK):Prop
 |mk (v:V) (d:D) (_:vs= [v]) (_:Is H d v) (_:(d= .non∨∃k e,d= .tup [.str k,e])) (_:∀u H',Same H H'->Is H' (Xz d) u->Q u H')
inductive sp_ansby (vs:List V) (H:Hp) (Q:VK) (E_:XK):Prop
 |mk (v:V) (k:Str) (e:D) (_:vs= [v]) (_:Is H (.tup [.str k,e]) v) (_:∀u H',Same H H'->Is H' (Qt (.tup [.str k,e])) u->Q u H')
theorem ok_ansby (T:Tx K mg a):#[K,1,a.wO,a.wP,["end"],sp_ansby]:=by
 exists 9,T.g_answer_by,sc_answer_by
 erw[h,v,k,e,rfl,U,q];have hs:=uA;have O:=U;erw[U,p,ws,rfl,Z,w1,r1,rfl,[rfl,aa],w2,r2,rfl,h2,h3];cases(show r2= [] from h3)
 exists _,%[|#[qu,#[yb,#[qr,QD,#[qQ,qP,pv 0,qm],qo,qC _],#[qG,#v[qo,#[qQ,qP,pv 0,qm]]],pv 0]]]
 exists 7
 exists 0,p,_,_,0,1,SqT.of Z,1,1,0;by_cases c:k="said"
 ·refine iteB (ub (by rw [c])) ⟨0,p,_,_,0,1,SqT.of Z,1,(sml rfl),λt ht=> ?_⟩
  refine q _ _ (qh ht _) ?_;unfold Qt;dsimp only;rw [A3 c];exact Is.new ⟨_,0,Jd (),_,0,h2,1⟩ ht
 ·refine iteN (ud (λz=>c (V.str.inj z))) [0:q _ H (Same.refl _) ?_];unfold Qt;dsimp only;rw [A2 c];exact O
theorem ok_once (T:Tx K mg a):#[K,1,a.jT,a.jX,["source"],sp_once]:=by
 exists 9,T.g_answer_at_once,zB
 erw[h,v,d,rfl,U,hd,q];have hs:=uA;exists _,%[#[qI,#[qr,YO,pv 0,Qb,qC _],%[|#[qu,#[qG,#v[qo]]]],qy]|#[qu,#[yb,#[qr,QD,#[qQ,qP,pv 0,qm],qo,qC _],#[qG,#v[qo,#[qQ,qP,pv 0,qm]]],Qb]]]
 exists 7
 exists 0,1,0;rcases hd with rfl|⟨k,e,rfl⟩
 ·cases(show v= .non from U)
  refine iteB (ub rfl) [(sml rfl):λt O=> ?_];exact q _ _ (qh O _) (Is.new ⟨_,0,Jd (),1⟩ O)
 ·erw[U,p,ws,rfl,Z,w1,r1,rfl,[rfl,aa],w2,r2,rfl,h2,h3];cases(show r2= [] from h3)
  refine iteN (ud (λz=>by cases z)) ?_
  exists 0,p,_,_,0,1,SqT.of Z,1,1,0;by_cases c:k="leaf"
  ·refine iteB (ub (by rw [c])) ⟨0,p,_,_,0,1,SqT.of Z,1,(sml rfl),λt O=> ?_⟩
   refine q _ _ (qh O _) ?_;unfold Xz;dsimp only;rw [A3 c];exact Is.new ⟨_,0,Jd (),_,0,h2,1⟩ O
  ·refine iteN (ud (λz=>c (V.str.inj z))) (q _ H (Same.refl _) ?_);unfold Xz;dsimp only;rw [A2 c];exact(rfl:V.non=V.non)
end
structure Sy where
 G:Type
 fin:G->Bool
 want:G->om Str
 own:G->G
 tk:G->om D->G
 stuck:G->Str->G
 said:G->om D
 g0:Str->om G
 once:Str->om D
 lft:G->Nat
 M:Nat
 ns:oj Str
structure Sy.Ok (Y:Sy):Prop where
 fs:∀g m,Y.fin (Y.stuck g m)=v_
 ss:∀g m,Y.said (Y.stuck g m)=UU
 sf:∀g v,Y.said g=u_ v->Y.fin g=v_
 lo:∀g,Y.fin g=UV->Y.want g=UU->Y.lft (Y.own g)<Y.lft g
 lt:∀g m a,Y.fin g=UV->Y.want g=u_ m->Y.lft (Y.tk g a)<Y.lft g
 lk:∀g m,Y.fin g=UV->Y.lft (Y.stuck g m)<Y.lft g
 l0:∀m g,Y.g0 m=u_ g->Y.lft g<=Y.M
 gn:∀m g,Y.g0 m=u_ g->m∈Y.ns
namespace Sy
variable {Y:Sy}
noncomputable abbrev Orc:=Str->om (om D)
noncomputable def step (Y:Sy)(f:Orc)(g:Y.G):Y.G:=if Y.fin g=v_ then g else match Y.want g with
 |none=>Y.own g
 |some m=>match f m with
  |some a=>Y.tk g a
  |none=>Y.stuck g m
noncomputable def it (Y:Sy)(f:Orc):Nat->Y.G->Y.G
 |0,g=>g
 |k+1,g=>it Y f k (step Y f g)
theorem Zs {f:Orc}{g:Y.G}(h:Y.fin g=v_):step Y f g=g:=by unfold step;rw [A3 h]
theorem JD {f:Orc}{g:Y.G}(h:Y.fin g=v_):∀k,it Y f k g=g
 |0=>rfl
 |k+1=>by show it Y f k (step Y f g)=g;rw [Zs h];exact JD h k
theorem Xj {f:Orc}:∀(k j:Nat) (g:Y.G),it Y f (k+j) g=it Y f j (it Y f k g)
 |0,j,g=>by rw [t_];rfl
 |k+1,j,g=>by
  rw [Nat.add_right_comm];show it Y f (k+j) (step Y f g)=_;rw [Xj k j]
  rfl
theorem kX {f:Orc}(k:Nat)(g:Y.G):it Y f (k+1) g=step Y f (it Y f k g):=Xj k 1 g
theorem step_lft (h:Y.Ok){f:Orc}{g:Y.G}(O:Y.fin g=UV):Y.lft (step Y f g)<Y.lft g:=by
 unfold step;rw [O,A2 u9];cases U:Y.want g with
 |none=>exact h.lo g O U
 |some m=>
  show Y.lft (match f m with|some a=>Y.tk g a|none=>Y.stuck g m)<_
  cases f m with
  |some a=>exact h.lt g m a O U
  |none=>exact h.lk g m O
theorem it_end (h:Y.Ok){f:Orc}:∀(k:Nat) (g:Y.G),Y.lft g<=k->Y.fin (it Y f k g)=v_
 |0,g,hl=>by
  show Y.fin g=v_;cases O:Y.fin g with
  |true=>rfl
  |false=>have:=step_lft (f:=f) h O;omega
 |k+1,g,hl=>by
  show Y.fin (it Y f k (step Y f g))=v_;cases O:Y.fin g with
  |true=>rw [Zs O,JD O];exact O
  |false=>exact it_end h k _ (by have:=step_lft (f:=f) h O;omega)
variable {j:Nat}
theorem it_one {f:Orc}{g:Y.G}{k:Nat}(O:Y.fin (it Y f k g)=v_)(U:Y.fin (it Y f j g)=v_):it Y f k g=it Y f j g:=by
 rcases HW k j with h|h
 ·erw[Uk h,d,rfl];rw [Xj,JD O]
 ·erw[Uk h,d,rfl];rw [Xj,JD U]
theorem it_mono (h:Y.Ok){f f':Orc}(hm:∀m a,f m=u_ a->f' m=u_ a):∀(k:Nat) (g:Y.G),it Y f' k g=it Y f k g∨((∀j,it Y f j (it Y f k g)=it Y f k g)/\Y.said (it Y f k g)=UU)
 |0,g=> .inl rfl
 |k+1,g=>by
  show it Y f' k (step Y f' g)=it Y f k (step Y f g)∨_;by_cases c:step Y f' g=step Y f g
  ·rw [c];exact it_mono h hm k _
  ·right;have U:Y.fin g=false:=by
    cases U:Y.fin g with
    |false=>rfl
    |true=>exact absurd (by rw [Zs U,Zs U]) c
   have e:∃m,step Y f g=Y.stuck g m:=by
    unfold step at c⊢;rw [U,A2 u9] at c⊢;rw [A2 u9] at c;cases Z:Y.want g with
    |none=>rw [Z] at c;exact absurd rfl c
    |some m=>
     rw [Z] at c;simp only at c⊢;cases O:f m with
     |none=>exact[m:1]
     |some a=>rw [O,hm m a O] at c;exact absurd rfl c
   erw[e,m,e];have e2:it Y f (k+1) g=Y.stuck g m:=by
    show it Y f k (step Y f g)=_;rw [e];exact JD (h.fs g m) k
   rw [e2];exact[JD (h.fs g m):h.ss g m]
theorem it_said (h:Y.Ok){f f':Orc}(hm:∀m a,f m=u_ a->f' m=u_ a){k:Nat}{g:Y.G}{v:D}(O:Y.said (it Y f k g)=u_ v):it Y f' k g=it Y f k g:=by
 rcases it_mono h hm k g with e|⟨_,e⟩
 ·exact e
 ·rw [O] at e;cases e
noncomputable def Fh (Y:Sy):Nat->Orc
 |0,m=>match Y.g0 m with
  |none=>u_ (Y.once m)
  |some _=>UU
 |h+1,m=>match Y.g0 m with
  |none=>u_ (Y.once m)
  |some g=>(Y.said (it Y (Fh Y h) Y.M g)).map u_
variable {m:Str}
theorem ZB (h:Y.g0 m=UU):∀k,Fh Y k m=u_ (Y.once m)
 |0=>by simp only [Fh,h]
 |k+1=>by simp only [Fh,h]
theorem Fh_run {g:Y.G}(h:Y.g0 m=u_ g)(k:Nat):Fh Y (k+1) m=(Y.said (it Y (Fh Y k) Y.M g)).map some:=by simp only [Fh,h]
theorem Ku {g:Y.G}(h:Y.g0 m=u_ g):Fh Y 0 m=none:=by simp only [Fh,h]
theorem Fh_succ (h:Y.Ok):∀(k:Nat) (m:Str) (a:om D),Fh Y k m=u_ a->Fh Y (k+1) m=u_ a
 |0,m,a,e=>by
  cases O:Y.g0 m with
  |none=>rw [ZB O] at e⊢;exact e
  |some g=>rw [Ku O] at e;cases e
 |k+1,m,a,e=>by
  cases O:Y.g0 m with
  |none=>rw [ZB O] at e⊢;exact e
  |some g=>
   rw [Fh_run O] at e⊢;cases U:Y.said (it Y (Fh Y k) Y.M g) with
   |none=>rw [U] at e;cases e
   |some v=>
    rw [it_said h (Fh_succ h k) U];exact e
theorem Fh_le (h:Y.Ok){k:Nat}(O:k<=j){a:om D}(e:Fh Y k m=u_ a):Fh Y j m=u_ a:=by
 erw[Uk O,d,rfl]
 induction d with
 |zero=>exact e
 |succ d U=>exact Fh_succ h _ _ _ (U ())
open Classical in
noncomputable def F (Y:Sy):Orc:=λm=>if h:∃a k,Fh Y k m=u_ a then u_ (choose h) else UU
theorem F_iff (h:Y.Ok){a:om D}:F Y m=u_ a↔∃k,Fh Y k m=u_ a:=by
 unfold F;constructor
 ·intro e;by_cases c:∃a k,Fh Y k m=u_ a
  ·rw [dif_pos c] at e;have:=FO c;rwa [uH e] at this
  ·rw [dif_neg c] at e;cases e
 ·rintro⟨k,e⟩;have c:∃a k,Fh Y k m=u_ a:=[a:k:e];rw [dif_pos c];erw[FO c,j,U];have Z:=Fh_le h (Nat.le_max_left k j) e;have O:=Fh_le h (Nat.le_max_right k j) U;rw [Z] at O;exact O.symm
theorem F_of (h:Y.Ok){k:Nat}{a:om D}(e:Fh Y k m=u_ a):F Y m=u_ a:=(F_iff h).mpr [k:e]
theorem F_once (h:Y.Ok)(O:Y.g0 m=UU):F Y m=u_ (Y.once m):=F_of h (ZB O 0)
theorem step_near (h:Y.Ok)(g:Y.G):∃k,∀j,k<=j->step Y (Fh Y j) g=step Y (F Y) g:=by
 unfold step;by_cases U:Y.fin g=v_
 ·exact⟨(0),λj _=>by rw [A3 U,A3 U]⟩
 ·cases hw:Y.want g with
  |none=>exact[(0):λj _=>rfl]
  |some m=>
   cases O:F Y m with
   |some a=>
    erw[(F_iff h).mp O,k,e];exact⟨k,λj Z=>by simp only [Fh_le h Z e,O]⟩
   |none=>
    refine[(0):λj _=> ?_];have:Fh Y j m=none:=by
     cases e:Fh Y j m with
     |none=>rfl
     |some a=>rw [F_of h e] at O;cases O
    simp only [this,O]
theorem it_near (h:Y.Ok):∀(n:Nat) (g:Y.G),∃k,∀j,k<=j->it Y (Fh Y j) n g=it Y (F Y) n g
 |0,g=>[(0):λ_ _=>rfl]
 |n+1,g=>by
  erw[step_near h g,k1,h1];erw[it_near h n (step Y (F Y) g),k2,h2];refine[max k1 k2:λj O=> ?_];show it Y (Fh Y j) n (step Y (Fh Y j) g)=it Y (F Y) n (step Y (F Y) g);rw [h1 j (),h2 j ()]
theorem F_run (h:Y.Ok){g:Y.G}(U:Y.g0 m=u_ g):F Y m=(Y.said (it Y (F Y) Y.M g)).map some:=by
 cases Z:Y.said (it Y (F Y) Y.M g) with
 |some v=>
  erw[it_near h Y.M g,k,e];refine F_of h (k:=k+1) ?_;rw [Fh_run U,e k (uh _),Z]
  rfl
 |none=>
  show F Y m=UU;cases e:F Y m with
  |none=>rfl
  |some a=>
   erw[(F_iff h).mp e,k,e];cases k with
   |zero=>rw [Ku U] at e;cases e
   |succ k=>
    rw [Fh_run U] at e;cases O:Y.said (it Y (Fh Y k) Y.M g) with
    |none=>rw [O] at e;cases e
    |some v=>
     rw [<-it_said h (λm a q=>F_of h q) O,Z] at O;cases O
noncomputable def Wt (Y:Sy)(n m:Str):Prop:=∃g k,Y.g0 n=u_ g/\Y.fin (it Y (F Y) k g)=UV/\Y.want (it Y (F Y) k g)=u_ m
theorem wt_less (h:Y.Ok){n:Str}(w:Wt Y n m){k:Nat}{a:om D}(e:Fh Y k n=u_ a):∃j b,j<k/\Fh Y j m=u_ b:=by
 erw[w,g,i,hg,hf,hw];cases k with
 |zero=>rw [Ku hg] at e;cases e
 |succ k=>
  exists k;rw [Fh_run hg] at e;cases U:Y.said (it Y (Fh Y k) Y.M g) with
  |none=>rw [U] at e;cases e
  |some v=>
   have O:=h.sf _ _ U;have eM:=it_said h (f':=F Y) (λm a q=>F_of h q) U;rcases it_mono h (f:=Fh Y k) (f':=F Y) (λm a q=>F_of h q) i g with ei|⟨ei,es⟩
   ·rw [ei] at hf hw;cases hm:Fh Y k m with
    |some b=>exact[b:tE k:1]
    |none=>
     have e1:it Y (Fh Y k) (i+1) g=Y.stuck (it Y (Fh Y k) i g) m:=by
      rw [kX];unfold step;rw [hf,A2 u9,hw];simp only [hm]
     have e2:Y.fin (it Y (Fh Y k) (i+1) g)=true:=by rw [e1];exact h.fs _ _
     rw [<-it_one e2 O,e1,h.ss] at U;cases U
   ·have Z:it Y (Fh Y k) (i+Y.M) g=it Y (Fh Y k) i g:=by rw [Xj];exact ei _
    have e3:it Y (Fh Y k) (Y.M+i) g=it Y (Fh Y k) Y.M g:=by rw [Xj];exact JD O i
    rw [<-e3,Nat.add_comm,Z,es] at U;cases U
inductive Wts (Y:Sy):Str->Str->Prop
 |one {n m:Str}:Wt Y n m->Wts Y n m
 |more {n m l:Str}:Wts Y n m->Wt Y m l->Wts Y n l
theorem wts_less (h:Y.Ok){n:Str}(w:Wts Y n m):∀{k:Nat}{a:om D},Fh Y k n=u_ a->∃j b,j<k/\Fh Y j m=u_ b:=by
 induction w with
 |one w=>exact λe=>wt_less h w e
 |more _ w O=>
  intro k a e;erw[O e,j,b,hj,U];erw[wt_less h w U,i,c,hi,Z];exact⟨i,c,(),Z⟩
theorem Xy (h:Y.Ok){n:Str}(w:Wts Y n n):F Y n=none:=by
 have O:∀k a,Fh Y k n≠u_ a:=by
  intro k
  induction k using Nat.strongRecOn with
  |_ k U=>
   intro a e;erw[wts_less h w e,j,b,Z,e1];exact U j Z b e1
 cases e:F Y n with
 |none=>rfl
 |some a=>
  erw[(F_iff h).mp e,k,e];exact absurd e (O k a)
structure Ss (Y:Sy) where
 stk:oj (Str×Y.G)
 don:oj (Str×Y.G)
noncomputable def Yj (l:oj (Str×Y.G))(m:Str):om Y.G:=(l.find? λp=>decide (p.1=m)).map (·.2)
noncomputable def yet (S:Ss Y)(m:Str):om (om (om D)):=if m∈S.stk.map (·.1) then u_ UU else match Y.g0 m with
 |none=>u_ (u_ (Y.once m))
 |some _=>(Yj S.don m).map λg=>(Y.said g).map u_
noncomputable def nxt (S:Ss Y):Ss Y:=match S.stk with
 | []=>S
 |(n,g)::r=>if Y.fin g=v_ then[r:S.don++ [(n,g)]] else match Y.want g with
  |none=>[(n,Y.own g)::r:S.don]
  |some m=>match yet S m with
   |some (u_ a)=>[(n,Y.tk g a)::r:S.don]
   |some UU=>[(n,Y.stuck g m)::r:S.don]
   |none=>match Y.g0 m with
    |some g'=>[(m,g')::(n,g)::r:S.don]
    |none=>S
noncomputable def nx (S:Ss Y):Nat->Ss Y
 |0=>S
 |k+1=>nxt (nx S k)
noncomputable def rest (S:Ss Y):oj Str:=Y.ns.filter λm=>decide (m∉S.stk.map (·.1))&&decide (m∉S.don.map (·.1))
noncomputable def lfts:oj (Str×Y.G)->Nat
 | []=>0
 |(_,g)::r=>Y.lft g+1+lfts r
noncomputable def mu (S:Ss Y):Nat:=lfts S.stk+(Y.M+2)*(rest S).length
variable {S:Ss Y}
theorem jJ (h:yet S m=UU):m∉S.stk.map (·.1)/\(∃g,Y.g0 m=u_ g)/\m∉S.don.map (·.1):=by
 unfold yet at h;by_cases c:m∈S.stk.map (·.1)
 ·rw [A3 c] at h;cases h
 ·rw [A2 c] at h;cases O:Y.g0 m with
  |none=>rw [O] at h;cases h
  |some g=>
   rw [O] at h;simp only [Hz] at h;refine[c:[g:1]:λhm=> ?_];erw[A8.mp hm,p,U,rfl];have h3:(S.don.find? λq=>decide (q.1=p.1))=none:=by simpa [Yj] using h
   rw [Uf] at h3;exact h3 p U (by simp)
variable {l:oj Str}
theorem Kc {p q:Str->Bool}(Z:m∈l)(hp:p m=v_)(hq:q m=UV)(O:∀x,q x=v_->p x=v_):(l.filter q).length<(l.filter p).length:=by
 induction l with
 |nil=>cases Z
 |cons x r U=>
  have le:(r.filter q).length<=(r.filter p).length:=by
   clear U Z
   induction r with
   |nil=>exact uh _
   |cons y r U=>
    rw [vK,vK];cases h1:q y with
    |true=>rw [O y h1,A3 rfl,A3 rfl];simp only [ui];omega
    |false=>
     rw [A2 u9];split
     ·simp only [ui];omega
     ·exact U
  rw [vK,vK];rcases A5.mp Z with rfl|hm
  ·rw [hp,hq,A3 rfl,A2 u9,ui];omega
  ·have:=U hm;cases h1:q x with
   |true=>rw [O x h1,A3 rfl,A3 rfl];simp only [ui];omega
   |false=>
    rw [A2 u9];split
    ·simp only [ui];omega
    ·exact this
theorem nxt_mu (h:Y.Ok)(hs:S.stk≠ []):mu (nxt S)<mu S:=by
 erw[S,stk,don];cases stk with
 |nil=>exact absurd rfl hs
 |cons p r=>
  erw[p,n,g];have same:∀g',Y.lft g'<Y.lft g->mu (⟨(n,g')::r,don⟩:Ss Y)<mu ⟨(n,g)::r,don⟩:=by
   intro g' hl;show Y.lft g'+1+lfts r+(Y.M+2)*_<Y.lft g+1+lfts r+(Y.M+2)*_;have e:rest (⟨(n,g')::r,don⟩:Ss Y)=rest ⟨(n,g)::r,don⟩:=rfl;rw [e];omega
  unfold nxt;simp only;cases O:Y.fin g with
  |true=>
   rw [A3 rfl];show lfts r+(Y.M+2)*_<Y.lft g+1+lfts r+(Y.M+2)*_;have e:rest (⟨r,don++ [(n,g)]⟩:Ss Y)=rest ⟨(n,g)::r,don⟩:=by
    unfold rest
    congr 1
    funext x
    simp only [ur,uq,vR,A7,uB,uC,uL,<-Bool.decide_and];rw [uW];constructor
    ·rintro⟨a,b⟩;exact[λz=>z.elim (λz=>b (.inr z)) a:λz=>b (.inl z)]
    ·rintro⟨a,b⟩;exact[λz=>a (.inr z):λz=>z.elim b λz=>a (.inl z)]
   rw [e];omega
  |false=>
   rw [A2 u9];cases hw:Y.want g with
   |none=>exact same _ (h.lo g O hw)
   |some m=>
    simp only;cases hy:yet ([(n,g)::r:don]:Ss Y) m with
    |some o=>
     cases o with
     |some a=>exact same _ (h.lt g m a O hw)
     |none=>exact same _ (h.lk g m O)
    |none=>
     simp only;erw[jJ hy,h1,[g',U],h2];rw [U];show Y.lft g'+1+(Y.lft g+1+lfts r)+(Y.M+2)*(rest ([(m,g')::(n,g)::r:don]:Ss Y)).length<Y.lft g+1+lfts r+(Y.M+2)*(rest ([(n,g)::r:don]:Ss Y)).length;have e:(rest (⟨(m,g')::(n,g)::r,don⟩:Ss Y)).length<(rest (⟨(n,g)::r,don⟩:Ss Y)).length:=by
      refine Kc (m:=m) (h.gn m g' U) ?_ ?_ ?_
      ·simp only [uw,v9];exact[h1:h2]
      ·simp
      ·intro x Z;simp only [uw,v9] at Z⊢;exact[λz=>Z.1 (uc _ z):Z.2]
     have l0:=h.l0 m g' U;have e2:=Nat.mul_le_mul_left (Y.M+2) (Nat.succ_le_of_lt e);rw [Nat.mul_succ] at e2;omega
noncomputable def Chn (Y:Sy):oj (Str×Y.G)->Prop
 | []=>True
 |(n,g)::r=>(∃s k,Y.g0 n=u_ s/\g=it Y (F Y) k s)/\Chn Y r/\∀p r',r=p::r'->Y.fin p.2=UV/\Y.want p.2=u_ n
structure SOk (n0:Str)(S:Ss Y):Prop where
 chn:Chn Y S.stk
 nd:(S.stk.map (·.1)++S.don.map (·.1)).Nodup
 don:∀p∈S.don,∃s,Y.g0 p.1=u_ s/\p.2=it Y (F Y) Y.M s
 bot:(S.stk.map (·.1)).getLast? =u_ n0∨S.stk= []/\(S.don.map (·.1)).getLast? =u_ n0
theorem chn_wts {n:Str}{g:Y.G}:∀{r:oj (Str×Y.G)}{m:Str},Chn Y ((n,g)::r)->m∈r.map (·.1)->Wts Y m n:=by
 intro r
 induction r generalizing n g with
 |nil=>intro m _ h;cases h
 |cons p r ih=>
  intro m hc hm;erw[p,O,g'];erw[hc,_,U,c3];erw[c3 (O,g') r rfl,f1,w1];erw[U.1,s,k,hs,Z];have w:Wt Y O n:=⟨s,k,hs,by rwa [<-Z],by rwa [<-Z]⟩
  rcases A5.mp hm with rfl|hm
  ·exact .one w
  ·exact .more (ih U hm) w
theorem Zf {l:oj (Str×Y.G)}{g:Y.G}(h:Yj l m=u_ g):(m,g)∈l:=by
 unfold Yj at h;cases e:l.find? λp=>decide (p.1=m) with
 |none=>rw [e] at h;cases h
 |some p=>
  rw [e] at h;cases uH h;have:=GR e;have hm:p.1=m:=uj this;rw [<-hm];exact vW e
variable {n0:Str}
theorem nxt_ok (h:Y.Ok)(hs:SOk n0 S):SOk n0 (nxt S):=by
 erw[S,stk,don];cases stk with
 |nil=>exact hs
 |cons p r=>
  erw[p,n,g];erw[hs,chn,nd,O,bot];erw[chn,[s,k,U,hk],c2,c3];have on:∀g',Y.fin g=UV->step Y (F Y) g=g'->SOk n0 (⟨(n,g')::r,don⟩:Ss Y):=by
   intro g' hf e;refine⟨[⟨s,k+1,U,?_⟩:c2:c3],nd,O,.inl ?_⟩
   ·rw [kX,<-hk,e]
   ·rcases bot with b|⟨b,_⟩
    ·exact b
    ·cases b
  unfold nxt;simp only;cases hf:Y.fin g with
  |true=>
   rw [A3 rfl];refine⟨c2,?_,λq hq=> ?_,?_⟩
   ·show(r.map (·.1)++(don++ [(n,g)]).map (·.1)).Nodup;have ac:(n::(r.map (·.1)++don.map (·.1))).Nodup:=nd;rw [ur,<-vL];show((r.map (·.1)++don.map (·.1))++ [n]).Nodup;exact(Hy (l₁:= [n]) (l₂:=r.map (·.1)++don.map (·.1))).nodup_iff.mp ac
   ·rcases A7.mp hq with hq|hq
    ·exact O q hq
    ·cases A6.mp hq;exists s,U;show g=_;rw [hk];refine it_one (by rwa [<-hk]) (it_end h _ _ (h.l0 n s U))
   ·rcases bot with b|⟨b,_⟩
    ·cases r with
     |nil=>
      right;exists 1;have hn:n=n0:=by simpa using b
      show((don++ [(n,g)]).map (·.1)).getLast? =u_ n0;rw [ur,hn];simp
     |cons q r=>
      left
      simpa [UH] using b
    ·cases b
  |false=>
   rw [A2 u9];have aa:step Y (F Y) g=match Y.want g with
     |none=>Y.own g
     |some m=>match F Y m with
      |some a=>Y.tk g a
      |none=>Y.stuck g m:=by
    unfold step;rw [hf,A2 u9]
   cases hw:Y.want g with
   |none=>exact on _ hf (by rw [aa,hw])
   |some m=>
    rw [hw] at aa;simp only at aa⊢;cases Z:yet ([(n,g)::r:don]:Ss Y) m with
    |some o=>
     have hF:F Y m=o:=by
      unfold yet at Z;by_cases c:m∈((n,g)::r).map (·.1)
      ·rw [A3 c] at Z;cases Z;have w:Wt Y n m:=⟨s,k,U,by rwa [<-hk],by rwa [<-hk]⟩
       rcases A5.mp c with rfl|hm
       ·exact Xy h (.one w)
       ·exact Xy h (.more (chn_wts (g:=g) [⟨s,k,U,hk⟩:c2:c3] hm) w)
      ·rw [A2 c] at Z;cases hg:Y.g0 m with
       |none=>
        rw [hg] at Z;cases Z;exact F_once h hg
       |some gm=>
        rw [hg] at Z;simp only at Z;cases hd:Yj don m with
        |none=>rw [hd] at Z;cases Z
        |some gd=>
         rw [hd] at Z;cases Z;erw[O _ (Zf hd),s',e1,e2];rw [hg] at e1;cases e1;have e3:gd=it Y (F Y) Y.M gm:=e2;rw [F_run h hg,e3]
     cases o with
     |some a=>exact on _ hf (by rw [aa,hF])
     |none=>exact on _ hf (by rw [aa,hF])
    |none=>
     simp only;erw[jJ Z,h1,[g',hg],h2];rw [hg];refine⟨[⟨g',(0),hg,1⟩:[⟨s,k,U,hk⟩:c2:c3]:λq r' e=> ?_],?_,O,.inl ?_⟩
     ·cases e;exact[hf:hw]
     ·show(m::(((n,g)::r).map (·.1)++don.map (·.1))).Nodup;rw [U1];refine[λz=> ?_:nd];rcases A7.mp z with z|z
      ·exact h1 z
      ·exact h2 z
     ·rcases bot with b|⟨b,_⟩
      ·show(m::n::r.map (·.1)).getLast? =u_ n0;rwa [UH]
      ·cases b
theorem nx_ok (h:Y.Ok){n0:Str}{S:Ss Y}(O:SOk n0 S):∀k,SOk n0 (nx S k)
 |0=>O
 |k+1=>nxt_ok h (nx_ok h O k)
theorem nx_stop {S:Ss Y}{k:Nat}(h:(nx S k).stk= []):∀j,nx S (k+j)=nx S k
 |0=>rfl
 |j+1=>by
  show nxt (nx S (k+j))=_;rw [nx_stop h j];unfold nxt;rw [h]
theorem nx_one {k:Nat}(O:(nx S k).stk= [])(U:(nx S j).stk= []):nx S k=nx S j:=by
 rcases HW k j with h|h
 ·erw[Uk h,d,rfl];exact(nx_stop O d).symm
 ·erw[Uk h,d,rfl];exact nx_stop U d
noncomputable def S0 (Y:Sy)(n:Str):Ss Y:=match Y.g0 n with
 |none=>[[]:[]]
 |some g=>[[(n,g)]:[]]
theorem S0_ok {n:Str}{g:Y.G}(O:Y.g0 n=u_ g):SOk n (S0 Y n):=by
 unfold S0;rw [O];exact⟨⟨⟨g,(0),O,1⟩,trivial,λ_ _ e=>by cases e⟩,by simp,λ_ h=>(by cases h),.inl rfl⟩
end Sy
end K25
namespace K25
open PySem L2 PyProof.Rows
noncomputable def ThS (d:D):Prop:=(∃z,d=flt z)∨(∃e,d= .tup [.str "said",e]/\isT e=v_)∨∃(u z:Str),d= .tup [.str "asks",.tup [.str u,.str z]]/\isT (.str z)=v_/\(u="names"∨(u="thing"∨u="has")/\nm z=v_)
theorem isNm_st {d:D}(h:isNm d=v_):∃z,d= .str z/\nm z=true:=by
 cases d with
 |str z=>exact[z:1:h]
 |_=>cases h
variable {own:Str}{n:Nat}{r:Rw}{e:D}
theorem rowO_sh {B:Str->D}{p:Int}(hr:j3 n 300 r)(h:Tr B)(O:rowO own r B p= .stop e):ThS e:=by
 unfold rowO at O;erw[id hr,ks,hk,hp];erw[r,U,ps];by_cases c1:U∈MKR
 ·rw [A3 c1] at O;simp only at O;generalize made U B own ps=dm at O;have aa:(if isT dm=v_ then Out.go (setB B (b0 ps) dm) (p+1) else .stop (flt "big"))= .stop e->ThS e:=by
   intro hq;by_cases c:isT dm=v_
   ·rw [A3 c] at hq;cases hq
   ·rw [A2 c] at hq;cases hq;exact .inl ⟨0⟩
  cases dm with
  |non=>cases O;exact .inl ⟨0⟩
  |_=>exact aa O
 rw [A2 c1] at O;by_cases c2:U∈ASK
 ·rw [A3 c2] at O;cases O;erw[ZQ _ hk c2,_,_,ek];simp only at ek;subst ek;erw[wJ hp,z0,z1,rfl,h0,h1];have hT:=h z1 h1;show ThS (askF U (B z1));unfold askF;by_cases d1:U="names"
  ·rw [A3 d1];by_cases Z:isStr (B z1)=v_
   ·rw [A3 Z];obtain⟨z,ez⟩:∃z,B z1= .str z:=by
     cases hb:B z1 with
     |str z=>exact[z:1]
     |_=>rw [hb] at Z;cases Z
    rw [ez] at hT⊢;exact .inr (.inr ⟨_,z,1,hT,.inl rfl⟩)
   ·rw [A2 Z];exact .inl ⟨0⟩
  ·rw [A2 d1];by_cases Z:isNm (B z1)=v_
   ·rw [A3 Z];erw[isNm_st Z,z,ez,hz];rw [ez] at hT⊢;refine .inr (.inr ⟨_,z,1,hT,.inr [?_:hz]⟩);split
    ·exact .inl rfl
    ·exact .inr rfl
   ·rw [A2 Z];exact .inl ⟨0⟩
 rw [A2 c2] at O;by_cases c3:U="say"
 ·rw [A3 c3] at O;cases O;subst c3;have ek:=frm_say _ hk rfl;simp only at ek;subst ek;erw[sh_b hp,z0,rfl,h0];exact .inr (.inl [0:h z0 h0])
 rw [A2 c3] at O;by_cases c4:U="fault"
 ·rw [A3 c4] at O;cases O;exact .inl ⟨0⟩
 rw [A2 c4] at O;by_cases c5:jump U B ps=v_
 ·rw [A3 c5] at O;cases O
 ·rw [A2 c5] at O;cases O
theorem runS_sh {rs:oj Rw}{own:Str}(U:Q9 rs):∀(f:Nat) (B:Str->D) (p:Int) (n:Nat) (gs:oj D),Tr B->1<=p->p<=rs.length+1->ThS (runS rs own gs f B p n).th
 |0,B,p,n,gs,hT,h1,h2=>by
  show ThS (if p>rs.length then flt "silent" else flt "long")
  split<;>exact .inl ⟨0⟩
 |f+1,B,p,n,gs,hT,h1,h2=>by
  unfold runS;by_cases c:p>rs.length
  ·rw [A3 c];exact .inl ⟨0⟩
  ·rw [A2 c];have O:=U.ok _ (kj h1 ())
   have hok:=rowO_ok (own:=own) O hT h1 ()
   cases Z:rowO own (j7 rs p) B p with
   |go B' p'=>
    rw [Z] at hok;exact runS_sh U f B' p' (n+1) gs hok.1 hok.2.1 hok.2.2
   |stop e=>exact rowO_sh O hT Z
variable {rs:oj Rw}
theorem ansS_sh (O:Q9 rs){r:Rn}{a:D}(h:RnOk rs r)(U:QO r.th=v_)(ha:Xv a):ThS (ansS rs own r a).th:=by
 erw[h.ask U,k1,_];unfold ansS;cases hn:wu a with
 |true=>rw [A3 rfl];exact .inl ⟨0⟩
 |false=>
  rw [A2 u9];have Z:isT a=true:=by
   rcases ha with rfl|ha
   ·cases hn
   ·exact ha
  exact runS_sh O _ _ _ _ _ (Ks h.tr Z) (by have:=h.p1;omega) ()
theorem runS_n {rs:oj Rw}{own:Str}:∀(f:Nat) (B:Str->D) (p:Int) (n:Nat) (gs:oj D),QO (runS rs own gs f B p n).th=v_->1<=f/\n<=(runS rs own gs f B p n).n
 |0,B,p,n,gs,h=>by
  have h:QO (if p>rs.length then flt "silent" else flt "long")=true:=h
  split at h<;>exact absurd h ()
 |f+1,B,p,n,gs,h=>by
  exists ()
  unfold runS at h⊢;by_cases c:p>rs.length
  ·rw [A3 c] at h;exact absurd h (show¬QO (flt "silent")=v_ by decide+kernel)
  ·rw [A2 c] at h⊢;cases U:rowO own (j7 rs p) B p with
   |go O p'=>
    rw [U] at h;have:=(runS_n f O p' (n+1) gs h).2;show n<=(runS rs own gs f O p' (n+1)).n;omega
   |stop e=>
    show n<=(if QO e=v_ then n else n+1)
    split<;>omega
theorem ansS_n {r:Rn}{a:D}(h:QO (ansS rs own r a).th=v_):r.n+1<300/\r.n+1<=(ansS rs own r a).n:=by
 unfold ansS at h⊢;cases hn:wu a with
 |true=>rw [hn,A3 rfl] at h;exact absurd h (show¬QO (flt "lack")=v_ by decide+kernel)
 |false=>
  rw [hn,A2 u9] at h;rw [A2 u9];have:=runS_n _ _ _ _ _ h;exact[():this.2]
structure Gp where
 n:Str
 mb:D
 ra:oj D
 run:om (oj Rw×Rn)
 en:om D
noncomputable def enOf (r:Rn):om D:=if QO r.th=v_ then UU else u_ r.th
noncomputable def begP (g:Gp)(d:D):Gp:=if wu d=v_ then{g with en:=u_ (flt "lack")} else match Q2 d with
 |none=>{g with en:=u_ (flt "rule")}
 |some rs=>{g with run:=u_ (rs,R0 rs g.n),en:=enOf (R0 rs g.n)}
noncomputable def y9 (g:Gp)(d:D):Gp:=match g.run with
 |none=>begP {g with ra:= [.tup [.tup [.str "rule",g.mb],d]]} d
 |some (rs,r)=>{g with run:=u_ (rs,ansS rs g.n r d),en:=enOf (ansS rs g.n r d)}
noncomputable def yA (g:Gp):D:=match g.run with
 |none=> .tup [.str "rule",g.mb]
 |some (_,r)=>X7 r.th
noncomputable def yM (qs:oj (Str×D))(k z:Str):D:=if k="has" then .str (if z∈qs.map (·.1) then "yes" else "no") else rowT (rowG [] ((qs.map (·.1)).filter λy=>VQ y z))
noncomputable def isHN (k:Str):Bool:=decide (k="has")||decide (k="names")
noncomputable def yD (g:Gp):om Str:=match yA g with
 | .tup [.str k,.str z]=>if isHN k=v_ then UU else u_ z
 |_=>UU
noncomputable def ownP (qs:oj (Str×D))(g:Gp):Gp:=match yA g with
 | .tup [.str k,.str z]=>y9 g (yM qs k z)
 |_=>{g with en:=u_ (flt "name")}
noncomputable def xk:D->om D
 | .tup [.str k,v]=>if k="said" then u_ v else UU
 |_=>UU
noncomputable def Wh (g:Gp):om D:=g.en.bind xk
noncomputable def stkP (g:Gp)(m:Str):Gp:={g with en:=u_ (.tup [.str "stuck",.str m])}
noncomputable def lftP (g:Gp):Nat:=match g.en with
 |some _=>0
 |none=>match g.run with
  |none=>302
  |some (_,r)=>1+(300-r.n)
noncomputable def g0D (m:Str):D->om Gp
 | .tup [.str k,e]=>if k="leaf" then UU else if k="made" then u_ ⟨m,e,[],UU,UU⟩ else u_ (begP ⟨m,.non,[],UU,UU⟩ e)
 |_=>UU
noncomputable def Wc:D->om D
 | .tup [.str _,e]=>u_ e
 |_=>UU
noncomputable def SyP (qs:oj (Str×D)):Sy:=⟨Gp,λg=>g.en.isSome,yD,ownP qs,λg a=>y9 g (a.getD .non),stkP,Wh,λm=>g0D m (qD qs m),λm=>Wc (qD qs m),lftP,(302),qs.map (·.1)⟩
variable {g:Gp}
theorem lft_beg (h:g.run=UU)(d:D):g.en=UU->lftP (begP g d)<302:=by
 intro O;unfold begP;split
 ·show(0:Nat)<302;omega
 ·cases U:Q2 d with
  |none=>show(0:Nat)<302;omega
  |some rs=>
   show(match enOf (R0 rs g.n) with|some _=>0|none=>1+(300-(R0 rs g.n).n))<302
   cases enOf (R0 rs g.n) with
   |some d=>show(0:Nat)<302;omega
   |none=>show(1+(300-(R0 rs g.n).n):Nat)<302;omega
theorem lft_take (O:g.en=UU)(d:D):lftP (y9 g d)<lftP g:=by
 unfold y9;cases U:g.run with
 |none=>
  have e:lftP g=302:=by unfold lftP;rw [O,U]
  rw [e];exact lft_beg (g:=⟨g.n,g.mb,[.tup [.tup [.str "rule",g.mb],d]],UU,g.en⟩) rfl d O
 |some p=>
  erw[p,rs,r];have e:lftP g=1+(300-r.n):=by unfold lftP;rw [O,U]
  rw [e];show(match enOf (ansS rs g.n r d) with|some _=>0|none=>1+(300-(ansS rs g.n r d).n))<_
  unfold enOf;by_cases c:QO (ansS rs g.n r d).th=v_
  ·rw [A3 c];have:=ansS_n c;show 1+(300-(ansS rs g.n r d).n)<1+(300-r.n);omega
  ·rw [A2 c];show 0<1+(300-r.n);omega
variable {qs:oj (Str×D)}{z:Str}
theorem y6 (h:z∉qs.map (·.1)):qD qs z= .non:=by
 unfold qD;have:(qs.find? λp=>decide (p.1=z))=none:=by
  rw [Uf];intro p O e;exact h (A8.mpr [p:O:uj e])
 rw [this]
 rfl
theorem yC (qs:oj (Str×D)):(SyP qs).Ok where
 fs:=λ_ _=>rfl
 ss:=λg m=>by
  show xk (.tup [.str "stuck",.str m])=UU;unfold xk;exact A2 ()
 sf:=λg v h=>by
  have h:Wh g=u_ v:=h;unfold Wh at h;show g.en.isSome=v_;cases O:g.en with
  |none=>rw [O] at h;cases h
  |some d=>rfl
 lo:=λg U Z=>by
  have O:g.en=none:=by
   cases O:g.en with
   |none=>rfl
   |some d=>have U:g.en.isSome=false:=U;rw [O] at U;cases U
  show lftP (ownP qs g)<lftP g;unfold ownP;split
  ·exact lft_take O _
  ·have:0<lftP g:=by
    unfold lftP;rw [O];simp only;split<;>omega
   exact this
 lt:=λg m a U Z=>by
  have O:g.en=none:=by
   cases O:g.en with
   |none=>rfl
   |some d=>have U:g.en.isSome=false:=U;rw [O] at U;cases U
  exact lft_take O _
 lk:=λg m U=>by
  have O:g.en=none:=by
   cases O:g.en with
   |none=>rfl
   |some d=>have U:g.en.isSome=false:=U;rw [O] at U;cases U
  show 0<lftP g;unfold lftP;rw [O];simp only;split<;>omega
 l0:=λm g h=>by
  have h:g0D m (qD qs m)=u_ g:=h;show lftP g<=302;unfold g0D at h;split at h
  ·split at h
   ·cases h
   ·split at h
    ·cases h;exact uh _
    ·cases h;exact UO (lft_beg rfl _ rfl)
  ·cases h
 gn:=λm g h=>by
  have h:g0D m (qD qs m)=u_ g:=h;show m∈qs.map (·.1);by_cases c:m∈qs.map (·.1)
  ·exact c
  ·rw [y6 c] at h;cases h
noncomputable def EnS (d:D):Prop:=(∃z,d=flt z)∨(∃e,d= .tup [.str "said",e]/\isT e=v_)∨∃z,d= .tup [.str "stuck",.str z]
structure GI (g:Gp):Prop where
 n:nm g.n=v_
 run:∀rs r,g.run=u_ (rs,r)->Q9 rs/\RnOk rs r/\ThS r.th/\(g.en=UU->QO r.th=v_)
 no:g.run=UU->g.en=UU->∃z,g.mb= .str z/\nm z=v_
 en:∀d,g.en=u_ d->EnS d
 ra:nL g.ra=v_/\dpL g.ra<=30/\g.ra.length<=1
theorem en_of {r:Rn}(h:ThS r.th){d:D}(e:enOf r=u_ d):EnS d:=by
 unfold enOf at e;by_cases c:QO r.th=v_
 ·rw [A3 c] at e;cases e
 ·rw [A2 c] at e;cases e;rcases h with h|h|⟨u,z,h,_⟩
  ·exact .inl h
  ·exact .inr (.inl h)
  ·rw [h] at c;exact absurd (show decide (("asks":Str)="asks")=v_ from ub rfl) c
theorem en_none {r:Rn}(e:enOf r=UU):QO r.th=true:=by
 unfold enOf at e;by_cases c:QO r.th=v_
 ·exact c
 ·rw [A2 c] at e;cases e
theorem R0_sh {n:Str}(h:Q9 rs):ThS (R0 rs n).th:=runS_sh h 300 B0 1 0 [] B0_tr () (by have:=h.n0;omega)
theorem gi_beg (d:D)(h1:nm g.n=v_)(h2:g.run=UU)(h3:nL g.ra=v_/\dpL g.ra<=30/\g.ra.length<=1):GI (begP g d):=by
 unfold begP;split
 ·exact⟨h1,λrs r e=>(by rw [show g.run=u_ (rs,r) from e] at h2;cases h2),(λ_ e=>by cases e),λd e=>by cases e;exact .inl ⟨0⟩,h3⟩
 ·cases U:Q2 d with
  |none=>exact⟨h1,λrs r e=>(by rw [show g.run=u_ (rs,r) from e] at h2;cases h2),(λ_ e=>by cases e),λd e=>by cases e;exact .inl ⟨0⟩,h3⟩
  |some rs=>
   have O:=(wH U).2;exact⟨h1,λZ r e=>by cases e;exact⟨O,R0_ok O,R0_sh O,λe=>en_none e⟩,λe _=>(by cases e),λd e=>en_of (R0_sh O) e,h3⟩
theorem gi_take (h:GI g)(U:g.en=UU){d:D}(ha:Xv d):GI (y9 g d):=by
 unfold y9;cases Z:g.run with
 |none=>
  erw[h.no Z U,z,hz,_];refine gi_beg d h.n rfl ?_;have O:nD d=v_/\dp d<=12:=by
   rcases ha with rfl|ha
   ·exact⟨1,by simp [dp]⟩
   ·exact[wb (QZ ha):Jn ha]
  rw [hz];refine[?_:?_:uh _]
  ·simp only [nL,nD,O.1,vE]
  ·simp only [dpL,dp];have:=O.2;omega
 |some p=>
  erw[p,rs,r];erw[h.run rs r Z,k1,k2,k3,k4];have hs:=ansS_sh (own:=g.n) k1 k2 (k4 U) ha;exact⟨h.n,λaa r' e=>by cases e;exact⟨k1,ansS_ok k1 k2 (k4 U) ha,hs,λe=>en_none e⟩,λe _=>(by cases e),λd e=>en_of hs e,h.ra⟩
theorem gi_stk (h:GI g)(m:Str):GI (stkP g m):=⟨h.n,λrs r e=>⟨(h.run rs r e).1,(h.run rs r e).2.1,(h.run rs r e).2.2.1,(λz=>by cases z)⟩,(λ_ e=>by cases e),λd e=>by cases e;exact .inr (.inr [m:1]),h.ra⟩
theorem rowG_tree:∀(zs O:oj Str),isT (rowT O)=v_->isT (rowT (rowG O zs))=v_
 | [],O,h=>h
 |z::r,O,h=>by
  unfold rowG;split
  ·rename_i c;exact rowG_tree r _ c
  ·exact h
theorem ZM (U:Qn qs){k:Str}(z:Str)(hk:isHN k=v_):isT (yM qs k z)=v_/\ansB k (yM qs k z)=true:=by
 unfold yM;by_cases c:k="has"
 ·rw [A3 c,c];split<;>exact[():()]
 ·rw [A2 c];have O:isT (rowT (rowG [] ((qs.map (·.1)).filter λy=>VQ y z)))=true:=rowG_tree _ [] ()
  exists O;have Z:isRow (rowT (rowG [] ((qs.map (·.1)).filter λy=>VQ y z)))=true:=by
   show List.all (tu D.str _) isNm=v_;rw [U5];intro x hx;erw[A8.mp hx,y,hy,rfl];rcases rowG_mem _ _ _ hy with h|h
   ·cases h
   ·exact U.1.1.1 y (A9.mp h).1
  unfold ansB;rw [A2 (show¬wu (rowT _)=v_ from u9),A3 O,A2 c,Z,Bool.or_true]
theorem YS (h:GI g)(he:g.en=UU)(U:yD g=UU):∃rs r k z,g.run=u_ (rs,r)/\r.th= .tup [.str "asks",.tup [.str k,.str z]]/\isHN k=v_/\isT (.str z)=v_/\ownP qs g=y9 g (yM qs k z):=by
 unfold yD at U;cases Z:g.run with
 |none=>
  erw[h.no Z he,z,hz,_];have e:yA g= .tup [.str "rule",.str z]:=by unfold yA;rw [Z,hz]
  rw [e] at U;simp only [show isHN "rule"=UV by decide+kernel,A2 u9] at U
  cases U
 |some p=>
  erw[p,rs,r];erw[h.run rs r Z,k1,k2,k3,k4];have O:=k4 he;rcases k3 with⟨z,e⟩|⟨d,e,_⟩|⟨u,z,e,ht,hu⟩
  ·rw [e] at O;exact absurd O (by show¬decide (("fault":Str)="asks")=v_;decide+kernel)
  ·rw [e] at O;exact absurd O (by show¬decide (("said":Str)="asks")=v_;decide+kernel)
  ·have e2:yA g= .tup [.str u,.str z]:=by unfold yA;rw [Z];show X7 r.th=_;rw [e];rfl
   rw [e2] at U;simp only at U;cases hk:isHN u with
   |false=>rw [hk,A2 u9] at U;cases U
   |true=>exact⟨rs,r,u,z,1,e,hk,ht,by unfold ownP;rw [e2]⟩
variable {m:Str}
theorem Wq (h:GI g)(he:g.en=UU)(O:yD g=u_ m):nm m=v_/\((g.run=UU/\g.mb= .str m)∨∃rs r,g.run=u_ (rs,r)/\r.th= .tup [.str "asks",.tup [.str "thing",.str m]]):=by
 unfold yD at O;cases Z:g.run with
 |none=>
  erw[h.no Z he,z,hz,hn];have e:yA g= .tup [.str "rule",.str z]:=by unfold yA;rw [Z,hz]
  rw [e] at O;simp only [show isHN "rule"=UV by decide+kernel,A2 u9] at O
  cases O;exact[hn:.inl [1:hz]]
 |some p=>
  erw[p,rs,r];erw[h.run rs r Z,k1,k2,k3,k4];have U:=k4 he;rcases k3 with⟨z,e⟩|⟨d,e,_⟩|⟨u,z,e,ht,hu⟩
  ·rw [e] at U;exact absurd U (by show¬decide (("fault":Str)="asks")=v_;decide+kernel)
  ·rw [e] at U;exact absurd U (by show¬decide (("said":Str)="asks")=v_;decide+kernel)
  ·have e2:yA g= .tup [.str u,.str z]:=by unfold yA;rw [Z];show X7 r.th=_;rw [e];rfl
   rw [e2] at O;simp only at O;rcases hu with rfl|⟨rfl|rfl,hn⟩
   ·rw [A3 ()] at O;cases O
   ·rw [A2 ()] at O
    cases O;exact[hn:.inr ⟨rs,r,1,e⟩]
   ·rw [A3 ()] at O;cases O
theorem gi_own (U:Qn qs)(h:GI g)(O:g.en=UU)(Z:yD g=UU):GI (ownP qs g):=by
 erw[YS (qs:=qs) h O Z,rs,r,k,z,_,_,hk,_,e];rw [e];exact gi_take h O (.inr (ZM U z hk).1)
theorem wS (U:Qn qs)(h:m∈qs.map (·.1)):nm m=v_/\∃k e,qD qs m= .tup [.str k,e]/\(k="made"->∃z,e= .str z/\nm z=v_)/\(k≠"made"->(k="leaf"∨k="rule")/\isT e=v_):=by
 have hs:=U.1.2 _ (dat_mem U.1.1.2 h);erw[hs,[k,e,O],h2,_];have O:qD qs m= .tup [.str k,e]:=O;have h2:isSrc (qD qs m)=true:=h2;rw [O] at h2;have e1:isSrc (.tup [.str k,e])=if eqD (.str k) (.str "made")=v_ then isNm e else(eqD (.str k) (.str "leaf")||eqD (.str k) (.str "rule"))&&isT e:=rfl
 rw [e1] at h2;have Z:∀y:Str,eqD (.str k) (.str y)=decide (k=y):=λy=>rfl;rw [Z,Z,Z] at h2;refine⟨U.1.1.1 m h,k,e,O,λc=> ?_,λc=> ?_⟩
 ·rw [ub c,A3 rfl] at h2;exact isNm_st h2
 ·rwa [ud c,A2 u9,uw,hW,v9,v9] at h2
theorem gi_g0 (U:Qn qs)(h:g0D m (qD qs m)=u_ g):GI g/\g.n=m:=by
 have hm:m∈qs.map (·.1):=(yC qs).gn m g h;erw[wS U hm,hn,k,e,hd,h1,h2];rw [hd] at h;unfold g0D at h;simp only at h;have O:nL ([]:oj D)=v_/\dpL ([]:oj D)<=30/\([]:oj D).length<=1:=⟨1,by simp [dpL],uU _⟩
 split at h
 ·cases h
 ·split at h
  ·rename_i c
   cases h;erw[h1 c,z,rfl,Z];exact⟨⟨hn,λrs r e=>(by cases e),λ_ _=>[z:1:Z],λd e=>(by cases e),O⟩,1⟩
  ·cases h;exists gi_beg e hn rfl O;unfold begP;split
   ·rfl
   ·split<;>rfl
theorem said_ok (h:GI g){v:D}(e:Wh g=u_ v):isT v=true:=by
 unfold Wh at e;cases O:g.en with
 |none=>rw [O] at e;cases e
 |some d=>
  rw [O] at e;have e:xk d=u_ v:=e;rcases h.en d O with⟨z,rfl⟩|⟨x,rfl,U⟩|⟨z,rfl⟩
  ·exact absurd e (by unfold xk flt;simp only;rw [A2 ()];exact λh=>by cases h)
  ·have Z:xk (.tup [.str "said",x])=u_ x:=by unfold xk;dsimp only;exact A3 rfl
   rw [Z] at e;cases e;exact U
  ·exact absurd e (by unfold xk;simp only;rw [A2 ()];exact λh=>by cases h)
theorem take_n (g:Gp)(d:D):(y9 g d).n=g.n:=by
 unfold y9;split
 ·unfold begP;split
  ·rfl
  ·split<;>rfl
 ·rfl
theorem own_n (qs:oj (Str×D))(g:Gp):(ownP qs g).n=g.n:=by
 unfold ownP;split
 ·exact take_n _ _
 ·rfl
noncomputable def SGI {qs:oj (Str×D)}(S:Sy.Ss (SyP qs)):Prop:=∀p:Str×Gp,p∈S.stk∨p∈S.don->GI p.2/\p.2.n=p.1
theorem yet_ok (Z:Qn qs){S:Sy.Ss (SyP qs)}(h:SGI S){a:om D}(e:Sy.yet S m=u_ (u_ a)):Xv (a.getD .non):=by
 unfold Sy.yet at e;split at e
 ·cases e
 ·split at e
  ·rename_i O
   cases e;have O:g0D m (qD qs m)=none:=O;show Xv ((Wc (qD qs m)).getD .non);by_cases hm:m∈qs.map (·.1)
   ·erw[wS Z hm,hn,k,e,hd,h1,h2];rw [hd] at O⊢;unfold g0D at O;simp only at O;by_cases c:k="leaf"
    ·exact .inr (h2 (by rw [c];decide+kernel)).2
    ·rw [A2 c] at O;split at O<;>cases O
   ·rw [y6 hm];exact .inl rfl
  ·cases hd:Sy.Yj S.don m with
   |none=>rw [hd] at e;cases e
   |some g=>
    rw [hd] at e;have e:(Wh g).map u_=u_ a:=uH e;cases U:Wh g with
    |none=>rw [U] at e;cases e
    |some v=>
     rw [U] at e;cases e;exact .inr (said_ok (h (m,g) (.inr (Sy.Zf hd))).1 U)
theorem nxt_gi (hq:Qn qs){S:Sy.Ss (SyP qs)}(h:SGI S):SGI (Sy.nxt S):=by
 erw[S,stk,don];cases stk with
 |nil=>exact h
 |cons p r=>
  erw[p,n,g];erw[h (n,g) (.inl uf),U,hn];have on:∀g':Gp,GI g'->g'.n=n->SGI #[Y,(n,g')::r,don]:=by
   intro g' h1 h2 p O;rcases O with O|O
   ·rcases A5.mp O with rfl|O
    ·exact[h1:h2]
    ·exact h p (.inl (uc _ O))
   ·exact h p (.inr O)
  unfold Sy.nxt;simp only;by_cases hf:(SyP qs).fin g=v_
  ·rw [A3 hf];intro p O;rcases O with O|O
   ·exact h p (.inl (uc _ O))
   ·rcases A7.mp O with O|O
    ·exact h p (.inr O)
    ·cases A6.mp O;exact[U:hn]
  ·rw [A2 hf];have Z:Gp.en g=none:=by
    cases Z:Gp.en g with
    |none=>rfl
    |some d=>exact absurd (show(Gp.en g).isSome=v_ by rw [Z];rfl) hf
   cases hw:(SyP qs).want g with
   |none=>exact on _ (gi_own hq U Z hw) ((own_n qs g).trans hn)
   |some m=>
    simp only;cases hy:Sy.yet #[Y,(n,g)::r,don] m with
    |some o=>
     cases o with
     |some a=>exact on _ (gi_take U Z (yet_ok hq h hy)) ((take_n _ _).trans hn)
     |none=>exact on _ (gi_stk U m) hn
    |none=>
     erw[Sy.jJ hy,_,[g',e],_];simp only;rw [e];intro p O;rcases O with O|O
     ·rcases A5.mp O with rfl|O
      ·exact gi_g0 hq e
      ·exact h p (.inl O)
     ·exact h p (.inr O)
structure Oc where
 (x dx px ls du dr df:o3)
noncomputable def ofs (o:Oc):oj (Str×V):= [("given_project",.ref o.px),("stack",.ref o.ls),("under_way",.ref o.du),("full_runs",.ref o.dr),("found",.ref o.df)]
noncomputable def OMT:oj Str:= ["go_through","enter","settle","runner","leave","go_on","answer_yet","begin_anew"]
theorem of_gp (o:Oc):(ofs o).lookup ("given_project":Str)=u_ (.ref o.px):=rfl
theorem of_st (o:Oc):(ofs o).lookup ("stack":Str)=u_ (.ref o.ls):=rfl
theorem of_uw (o:Oc):(ofs o).lookup ("under_way":Str)=u_ (.ref o.du):=rfl
theorem of_fr (o:Oc):(ofs o).lookup ("full_runs":Str)=u_ (.ref o.dr):=rfl
theorem of_fd (o:Oc):(ofs o).lookup ("found":Str)=u_ (.ref o.df):=rfl
theorem X0 (o:Oc):∀m∈OMT,(ofs o).lookup m=none:=by
 intro m hm;simp only [OMT,uB,uC,uL] at hm;rcases hm with rfl|rfl|rfl|rfl|rfl|rfl|rfl|rfl<;>rfl
structure Kp (L:oj o3)(H H':Hp):Prop where
 kept:∀b ob,H b=u_ ob->b∉L->H' b=u_ ob
 tk:Tk H H'
variable {L:oj o3}{H H':Hp}
theorem Kp.of (s:Same H H'):Kp L H H':=[λb ob h _=>s b ob h:s.tk]
variable {H1 H2:Hp}
theorem Kp.trans (h:Kp L H H1)(k:Kp L H1 H2):Kp L H H2:=[λb ob e n=>k.kept b ob (h.kept b ob e n) n:h.tk.trans k.tk]
variable {p:o3}
theorem Kp.updD {xs ys:oj (Key×V)}(h:H p=u_ (.dK xs))(O:p∈L):Kp L H (upd H p (.dK ys)):=⟨λb ob e n=>by have nb:b≠p:=(λz=>n (by rwa [z]));rwa [qk nb],Tk.updD h⟩
theorem ZS {κ:Type}[DecidableEq κ](k j:κ):∀kvs:oj (κ×V),valV (Jc kvs k) j=if j=k then UU else valV kvs j
 | []=>by show UU=_;split<;>rfl
 |p::r=>by
  by_cases c:p.1=k
  ·rw [dropK_pos c,ZS k j r];by_cases d:j=k
   ·rw [A3 d,A3 d]
   ·rw [A2 d,A2 d,QF (λz=>d (z.symm.trans c))]
  ·rw [dropK_neg c];by_cases d:p.1=j
   ·rw [QL d,A2 (λz=>c (d.trans z)),QL d]
   ·rw [QF d,ZS k j r,QF d]
variable {C:o3}
theorem yw.kp {x:o3}(h:yw C H x qs)(k:Kp L H H')(Z:∀p∈L,(∃xs,H p=u_ (.lst xs))∨(∃xs,H p=u_ (.dK xs))∨H p=UU):yw C H' x qs:=by
 erw[h,dx,d,o,vs,O,U,e3,e4];have n1:x∉L:=λz=>by rcases Z x z with⟨_,e⟩|⟨_,e⟩|e<;>rw [e] at O<;>cases O
 have n2:d∉L:=λz=>by rcases Z d z with⟨_,e⟩|⟨_,e⟩|e<;>rw [e] at U<;>cases U
 exact⟨dx,d,o,vs,k.kept _ _ O n1,k.kept _ _ U n2,e3,e4.mono k.tk⟩
structure OAt (CO CP:o3)(H:Hp)(o:Oc)(qs:oj (Str×D)):Prop where
 e:H o.x=u_ (.ins CO o.dx (ofs o))
 p:yw CP H o.px qs
variable {CO CP:o3}
theorem OAt.kp {o:Oc}(h:OAt CO CP H o qs)(k:Kp L H H')(O:∀p∈L,(∃xs,H p=u_ (.lst xs))∨(∃xs,H p=u_ (.dK xs))∨H p=UU):OAt CO CP H' o qs:=by
 refine[k.kept _ _ h.e (λz=> ?_):h.p.kp k O];have U:=h.e;rcases O o.x z with⟨_,e⟩|⟨_,e⟩|e<;>rw [e] at U<;>cases U
noncomputable def UkOk {qs:oj (Str×D)}(S:Sy.Ss (SyP qs))(uk:oj (Key×V)):Prop:=∀m:Str,(valV uk (UZ m)).isSome=decide (m∈S.stk.map (·.1))
noncomputable def FdOk {qs:oj (Str×D)}(H:Hp)(S:Sy.Ss (SyP qs))(fk:oj (Key×V)):Prop:=∀(m:Str) (g:Gp),g0D m (qD qs m)=u_ g->
 (∀g':Gp,Sy.Yj S.don m=u_ g'->∃v,valV fk (UZ m)=u_ v/\Is H (Qt (g'.en.getD .non)) v)/\(Sy.Yj S.don m=UU->valV fk (UZ m)=UU)
variable {fk:oj (Key×V)}
theorem FdOk.mono {S:Sy.Ss (SyP qs)}(h:FdOk H S fk)(t:Tk H H'):FdOk H' S fk:=λm g O=>⟨λg' e=>let⟨v,a,b⟩:=(h m g O).1 g' e;[v:a:b.mono t],(h m g O).2⟩
noncomputable def ansIs:om (om D)->D->Prop
 |some (u_ v),d=>d= .tup [.str "value",v]
 |some UU,d=>d= .tup [.str "lack"]
 |none,d=>∃k r,d= .tup (.str k::r)/\k≠"value"/\k≠"lack"
noncomputable def nrg (d:D):Prop:=∃k r,d= .tup (.str k::r)/\(k="value"∨k="lack"∨k="fault"∨k="stuck")
noncomputable def ansX (qs:oj (Str×D))(don:oj (Str×Gp))(m:Str):D:=match g0D m (qD qs m) with
 |none=>Xz (qD qs m)
 |some _=>Qt (((Sy.Yj (Y:=SyP qs) don m).bind λg:Gp=>g.en).getD .non)
noncomputable def YetIs {qs:oj (Str×D)}(H:Hp)(S:Sy.Ss (SyP qs))(m:Str)(v:V):Prop:=match Sy.yet S m with
 |none=>v= .non
 |some o=>∃d,Is H d v/\ansIs o d/\(m∉S.stk.map (·.1)->nrg d/\d=ansX qs S.don m)
inductive sp_yet (CO CP:Addr) (vs:List V) (H:Hp) (Q:VK) (E_:XK):Prop
 |mk (o:Oc) (m:Str) (qs:List (Str×D)) (S:Sy.Ss (SyP qs)) (uk fk:List (Key×V)) (_:vs= [.ref o.x,.str m]) (_:OAt CO CP H o qs) (_:Qn qs) (_:SGI S) (_:H o.du=u_ (.dK uk)) (_:UkOk S uk) (_:H o.df=u_ (.dK fk)) (_:FdOk H S fk) (_:fk.length<=100000) (_:(∀p∈S.don,(SyP qs).fin p.2=v_)) (_:∀(v:V) (H':Hp) (fk':List (Key×V)),Kp [o.df] H H'->H' o.df=u_ (.dK fk')->FdOk H' S fk'->fk'.length<=fk.length+1->(Sy.yet S m=UU->fk'.length=fk.length)->YetIs H' S m v->Q v H')
inductive sp_anew (CO:Addr) (vs:List V) (H:Hp) (Q:VK) (E_:XK):Prop
 |mk (x dx px:Addr) (_:vs= [.ref x,.ref px]) (_:H x=u_ (.ins CO dx [])) (_:∀(o:Oc) (H':Hp),o.x=x->o.dx=dx->o.px=px->(∀b ob,H b=u_ ob->b≠x->H' b=u_ ob)->Tk H H'->H o.ls=UU->H o.du=UU->H o.dr=UU->H o.df=UU-> [o.ls,o.du,o.dr,o.df].Nodup->H' x=u_ (.ins CO dx (ofs o))->H' o.ls=u_ (.lst [])->H' o.du=u_ (.dK [])->H' o.dr=u_ (.dK [])->H' o.df=u_ (.dK [])->Q .non H')
inductive sp_leave (vs:List V) (H:Hp) (Q:VK) (E_:XK):Prop
 |mk (x:_) (y:_) (_:vs= [x,y]) (_:Q .non H)
theorem Zt (O:Qn qs)(h:g0D m (qD qs m)=UU):∃k,Xz (qD qs m)= .tup k/\ansIs (u_ (Wc (qD qs m))) (.tup k)/\nrg (.tup k):=by
 by_cases hm:m∈qs.map (·.1)
 ·erw[wS O hm,hn,k,e,hd,h1,h2];rw [hd] at h⊢;unfold g0D at h;simp only at h;by_cases c:k="leaf"
  ·refine⟨[.str "value",e],?_,1,[_:0:.inl rfl]⟩;unfold Xz;simp only;exact A3 c
  ·rw [A2 c] at h;split at h<;>cases h
 ·rw [y6 hm];exact[0:1:[_:0:.inr (.inl rfl)]]
theorem once_no (O:Qn qs)(h:g0D m (qD qs m)=u_ g):Xz (qD qs m)= .non:=by
 erw[wS O ((yC qs).gn m g h),hn,k,e,hd,h1,h2];rw [hd] at h⊢;unfold g0D at h;simp only at h;by_cases c:k="leaf"
 ·rw [A3 c] at h;cases h
 ·unfold Xz;simp only;exact A2 c
theorem ans_of (h:GI g)(hf:g.en.isSome=v_):ansIs ((Wh g).map u_) (Qt (g.en.getD .non)):=by
 cases Z:g.en with
 |none=>rw [Z] at hf;cases hf
 |some d=>
  unfold Wh;rw [Z];show ansIs ((xk d).map u_) (Qt d);rcases h.en d Z with⟨z,rfl⟩|⟨x,rfl,hx⟩|⟨z,rfl⟩
  ·have O:xk (flt z)=none:=by unfold xk flt;dsimp only;exact A2 ()
   have U:Qt (flt z)=flt z:=by unfold Qt flt;dsimp only;exact A2 ()
   rw [O,U];exact⟨"fault",[.str z],1,(),()⟩
  ·have O:xk (.tup [.str "said",x])=u_ x:=by unfold xk;dsimp only;exact A3 rfl
   have U:Qt (.tup [.str "said",x])= .tup [.str "value",x]:=by unfold Qt;dsimp only;exact A3 rfl
   rw [O,U];exact rfl
  ·have O:xk (.tup [.str "stuck",.str z])=none:=by unfold xk;dsimp only;exact A2 ()
   have U:Qt (.tup [.str "stuck",.str z])= .tup [.str "stuck",.str z]:=by unfold Qt;dsimp only;exact A2 ()
   rw [O,U];exact⟨"stuck",[.str z],1,(),()⟩
theorem ans_nrg (h:GI g)(U:g.en.isSome=v_):nrg (Qt (g.en.getD .non)):=by
 cases Z:g.en with
 |none=>rw [Z] at U;cases U
 |some d=>
  show nrg (Qt d);rcases h.en d Z with⟨z,rfl⟩|⟨x,rfl,hx⟩|⟨z,rfl⟩
  ·have O:Qt (flt z)=flt z:=by unfold Qt flt;dsimp only;exact A2 ()
   rw [O];exact[_:0:.inr (.inr (.inl rfl))]
  ·have O:Qt (.tup [.str "said",x])= .tup [.str "value",x]:=by unfold Qt;dsimp only;exact A3 rfl
   rw [O];exact[_:0:.inl rfl]
  ·have O:Qt (.tup [.str "stuck",.str z])= .tup [.str "stuck",.str z]:=by unfold Qt;dsimp only;exact A2 ()
   rw [O];exact[_:0:.inr (.inr (.inr rfl))]
section
variable {P:o9}{w:og}{K:o0}{mg:Str->om o6}{base:o8}{a:Ad}{g:Ga}
theorem ok_leave (T:Tx K mg a):#[K,1,a.YU,a.Y3,["self","going"],sp_leave]:=by
 exists 9,T.g_PlainOrder_leave,xB,O
 erw[h,x,y,rfl,q];exists _,%[|ps_pass]
 exists 7
 exact q
theorem ok_anew (T:Tx K mg a):#[K,1,a.yK,a.yy,["self","project"],(sp_anew a.qq)]:=by
 exists 9,T.g_PlainOrder_begin_anew,ji
 erw[h,x,dx,px,rfl,hx,q];have hs:=uA;exists _,%[#[Qd,pv 1],#[Qd,#[QK,qf]],#[Qd,Zu],#[Qd,Zu]|#[Qd,Zu]]
 exists 7
 exists 0,0,x,_,dx,0,hx,T.qx,T.Qc,()
 refine[(sml rfl):λU h1=> ?_];have n1:x≠U:=ql qi h1;refine⟨0,x,_,dx,0,(qk n1).trans qi,T.qx,T.QC,by show 1<1000;decide,?_⟩
 intro Z h2;have n2:x≠Z:=ql qi h2;refine⟨0,x,_,dx,0,(qk n2).trans qi,T.qx,T.Qw,by show 2<1000;decide,?_⟩
 intro l3 h3;have n3:x≠l3:=ql qi h3;refine⟨0,x,_,dx,0,(qk n3).trans qi,T.qx,T.Qe,by show 3<1000;decide,?_⟩
 intro l4 h4;have n4:x≠l4:=ql qi h4;refine⟨0,x,_,dx,0,(qk n4).trans qi,T.qx,T.QB,by show 4<1000;decide,?_⟩
 rw [qk n1.symm] at h1;have O:Z≠U:=λz=>by rw [z,qk n1.symm,qi] at h2;cases h2
 have k2:H Z=none:=by rwa [qk n2.symm,qk O,qk n2.symm] at h2
 have aa:l3≠Z:=λz=>by rw [z,qk n2.symm,qi] at h3;cases h3
 have ac:l3≠U:=λz=>by rw [z,qk n1.symm,qk O.symm,qk n1.symm,qi] at h3;cases h3
 have k3:H l3=none:=by rwa [qk n3.symm,qk aa,qk n3.symm,qk ac,qk n3.symm] at h3
 have ad:l4≠l3:=λz=>by rw [z,qk n3.symm,qi] at h4;cases h4
 have ae:l4≠Z:=λz=>by rw [z,qk n2.symm,qk aa.symm,qk n2.symm,qi] at h4;cases h4
 have af:l4≠U:=λz=>by rw [z,qk n1.symm,qk ac.symm,qk n1.symm,qk O.symm,qk n1.symm,qi] at h4;cases h4
 have k4:H l4=none:=by rwa [qk n4.symm,qk ad,qk n4.symm,qk ae,qk n4.symm,qk af,qk n4.symm] at h4
 have kp:∀b ob,H b=u_ ob->b≠x->(upd (upd (upd (upd (upd (upd (upd (upd (upd H x (.ins a.qq dx (putF "given_project" (V.ref px) []))) U (.lst [])) x (.ins a.qq dx (putF "stack" (V.ref U) (putF "given_project" (V.ref px) [])))) Z (.dK [])) x (.ins a.qq dx (putF "under_way" (V.ref Z) (putF "stack" (V.ref U) (putF "given_project" (V.ref px) []))))) l3 (.dK [])) x (.ins a.qq dx (putF "full_runs" (V.ref l3) (putF "under_way" (V.ref Z) (putF "stack" (V.ref U) (putF "given_project" (V.ref px) [])))))) l4 (.dK [])) x (.ins a.qq dx (putF "found" (V.ref l4) (putF "full_runs" (V.ref l3) (putF "under_way" (V.ref Z) (putF "stack" (V.ref U) (putF "given_project" (V.ref px) []))))))) b=u_ ob:=λb ob h nb=>by
  rwa [qk nb,qk (ql h k4),qk nb,qk (ql h k3),qk nb,qk (ql h k2),qk nb,qk (ql h h1),qk nb]
 refine q ⟨x,dx,px,U,Z,l3,l4⟩ _ rfl rfl rfl kp ?_ h1 k2 k3 k4 ?_ ?_ ?_ ?_ ?_ ?_
 ·refine[λb xs e=>kp b _ e (λz=> ?_):λb xs e=>[xs:kp b _ e (λz=> ?_)]:λb xs e=>[xs:kp b _ e (λz=> ?_)]]<;>(rw [z,hx] at e;cases e)
 ·simp only [U1,uB,uC,uL,US,UM,vX,and_true];exact[[O.symm:ac.symm:af.symm]:[aa.symm:ae.symm]:ad.symm]
 ·exact qi
 ·rw [qk n1.symm,qk af.symm,qk n1.symm,qk ac.symm,qk n1.symm,qk O.symm,qk n1.symm];exact qi
 ·rw [qk n2.symm,qk ae.symm,qk n2.symm,qk aa.symm,qk n2.symm];exact qi
 ·rw [qk n3.symm,qk ad.symm,qk n3.symm];exact qi
 ·rw [qk n4.symm];exact qi
theorem ok_oinit (T:Tx K mg a):#[K,2,a.yP,a.jp,["self","project"],(sp_anew a.qq)]:=by
 have U:=#[ok_anew,T];exists 9,T.g_PlainOrder_init,Xn,Z
 erw[h,x,dx,px,rfl,O,q];exists _,%[|#[Qa,#[Qm,20,pv 0,T.qx,T.g_PlainOrder_begin_anew.h,U,Z.mono (),T.g_PlainOrder_begin_anew.b,.nil,qB,#v[pv 1],_,_,_]]]
 exists 7
 exact⟨0,x,dx,0,O,1,0,x,dx,px,1,O,q⟩
theorem ok_yet (T:Tx K mg a):#[K,2,a.yx,a.yB,["self","name"],(sp_yet a.qq a.qF)]:=by
 have yh:=#[wV,T];have Zj:=#[ok_once,T];exists 9,T.g_PlainOrder_answer_yet,yn
 erw[h,o,m,qs,S,uk,fk,rfl,hO,hq,hG,ac,hU,aa,hF,hl,Z,k];have hs:=uA;exists _,%[#[qI,#[pt_cmp,6,#[pc_din,5,Q5 hr,pv 1,#[qN,5,pv 0,rfl]],_],%[|#[qu,#[qG,#v[qo]]]],qy],#[qE,(2),yn.nd,#[qt,Zj,hr.mono (),T.g_answer_at_once,#v[#[Qm,#[qN,5,pv 0,rfl],T.Ya,T.g_Project_source_of,yh,#v[pv 1]]]]],#[qI,#[qr,op_notN,pv 2,Qb,qC _],%[|#[xz,pv 1,pv 2]],qy]|#[qu,#[pe_dget1,7,Q5 hr,#[qN,5,pv 0,rfl],pv 1,⟨1,1,1,1⟩]]]
 exists 7
 exists 0,0,o.x,_,o.dx,_,0,hO.e,T.qx,T.Qw,of_uw o,o.du,0,DGet.k (k:=UZ m) ac,0;rw [hU m];by_cases c:m∈S.stk.map (·.1)
 ·have ey:Sy.yet S m=u_ none:=by unfold Sy.yet;rw [A3 c]
  refine iteB (ub c) [(sml rfl):λt ht=> ?_];have s1:=qh ht (.tup [V.str "ring"]);refine k _ _ fk (Kp.of s1) (s1 _ _ aa) (hF.mono s1.tk) (Ha _) (λ_=>rfl) ?_;unfold YetIs;rw [ey];exact⟨_,Is.new (ds:= [.str "ring"]) ⟨_,0,Jd (),1⟩ ht,⟨"ring",[],1,(),()⟩,λz=>absurd c z⟩
 refine iteN (ud c) ?_;exists 0,o.x,_,o.dx,_,0,hO.e,T.qx,T.Qc,of_gp o;erw[id hO.p,ad,dp,op,ah,hx,hd,hk,hv];refine⟨o.px,ad,0,hx,zL,0,o.px,m,qs,1,hO.p,λv h1 h2=> ?_⟩;have ae:Is H (qD qs m) v:=by
  by_cases cm:m∈qs.map (·.1)
  ·exact h1 cm
  ·rw [h2 cm,y6 cm];exact rfl
 refine⟨v,qD qs m,1,ae,?_,λu H1 s1 hu=> ?_⟩
 ·by_cases cm:m∈qs.map (·.1)
  ·erw[wS hq cm,_,k,e,hd,_];exact .inr [k:e:hd]
  ·exact .inl (y6 cm)
 have O:=s1 _ _ aa;exists 0,1,0;cases hg:g0D m (qD qs m) with
 |none=>
  erw[Zt hq hg,l,e1,e2,e3];rw [e1] at hu;have af:u≠ .non:=zk hu (by intro z;cases z)
  have ey:Sy.yet S m=u_ (u_ (Wc (qD qs m))):=by have U:=hg;unfold Sy.yet;rw [A2 c,show(SyP qs).g0 m=_ from U];rfl
  refine iteB (by simp [af]) ?_
  have kp:Kp [o.df] H (upd H1 o.df (.dK (putK fk (UZ m) u))):=(Kp.of s1).trans (Kp.updD O uf);exists 0,0,o.x,_,o.dx,_,0,s1 _ _ hO.e,T.qx,T.QB,of_fd o,0,o.df,0,DPut.k (k:=UZ m) O ()
  have ag:=hO.kp kp (by intro p hp;cases A6.mp hp;exact .inr (.inl [_:aa]))
  exists 0,o.x,_,o.dx,_,0,ag.e,T.qx,T.QB,of_fd o,o.df,1,.inl [_:.inl qi],0,_,DGet.k (k:=UZ m) qi;rw [Xo,A3 rfl];refine k _ _ _ kp qi ?_ (yX _ _ _) (λz=>by rw [ey] at z;cases z) ?_
  ·intro m' g' U;rw [Xo,A2 (λz=>by injection z with z;rw [z,hg] at U;cases U)]
   exact(hF.mono kp.tk) m' g' U
  ·unfold YetIs;rw [ey];exact⟨_,(hu.mono (Tk.updD O)),e2,λ_=>⟨e3,by unfold ansX;rw [hg];exact e1.symm⟩⟩
 |some g=>
  rw [once_no hq hg] at hu;cases(show u= .non from hu)
  refine iteN (by simp) ?_
  exists 0,o.x,_,o.dx,_,0,s1 _ _ hO.e,T.qx,T.QB,of_fd o,o.df,1,.inl [_:.inl O],0,_,DGet.k (k:=UZ m) O;refine k _ _ fk (Kp.of s1) O (hF.mono s1.tk) (Ha _) (λ_=>rfl) ?_;have ey:Sy.yet S m=(Sy.Yj S.don m).map λg=>(Wh g).map some:=by have U:=hg;unfold Sy.yet;rw [A2 c,show(SyP qs).g0 m=_ from U];rfl
  erw[hF m g hg,f1,f2];unfold YetIs;rw [ey];cases hd:Sy.Yj S.don m with
  |none=>
   rw [f2 hd];exact rfl
  |some g'=>
   erw[f1 g' hd,y,e1,e2];rw [e1];exact⟨_,e2.mono s1.tk,ans_of (hG (m,g') (.inr (Sy.Zf hd))).1 (Z (m,g') (Sy.Zf hd)),λ_=>⟨ans_nrg (hG (m,g') (.inr (Sy.Zf hd))).1 (Z (m,g') (Sy.Zf hd)),by unfold ansX;rw [hg,hd];rfl⟩⟩
structure GRel (g:Gc)(s:Gs)(p:Gp):Prop where
 n:g.n=p.n
 mb:s.mb=p.mb
 ra:s.ra=p.ra
 run:(s.run.map λq=>(q.1.rs,q.2))=p.run
 own:∀mc r,s.run=u_ (mc,r)->mc.own=g.n
 en:s.en=p.en.getD .non
noncomputable def plcR:om (Mc×Rn)->oj o3
 |none=> []
 |some (mc,_)=> [mc.x,mc.db,mc.dg]
noncomputable def plc (g:Gc)(s:Gs):oj o3:=g.x::plcR s.run
theorem GRel.none {g:Gc}{s:Gs}{p:Gp}(h:GRel g s p)(e:p.run=UU):s.run=none:=by
 have:=h.run;rw [e] at this;cases O:s.run with
 |none=>rfl
 |some q=>rw [O] at this;cases this
theorem GRel.some {g:Gc}{s:Gs}{p:Gp}(h:GRel g s p){rs:oj Rw}{r:Rn}(e:p.run=u_ (rs,r)):∃mc:Mc,s.run=u_ (mc,r)/\mc.rs=rs/\mc.own=g.n:=by
 have:=h.run;rw [e] at this;cases O:s.run with
 |none=>rw [O] at this;cases this
 |some q=>
  erw[q,mc,U];rw [O] at this;cases this;exact⟨mc,1,1,h.own mc U O⟩
variable {CM:o3}
theorem GoAt.frame {g:Gc}{s:Gs}(h:GoAt C CM H g s)(O:∀b∈plc g s,∀ob,H b=u_ ob->H' b=u_ ob)(t:Tk H H'):GoAt C CM H' g s:=by
 erw[h,dx,fs,mv,av,rv,ev,e,f,i,j,k,l];refine⟨dx,fs,mv,av,rv,ev,O _ uf _ e,f,i.mono t,j.mono t,?_,l.mono t⟩;cases U:s.run with
 |none=>rwa [U] at k
 |some q=>
  erw[q,mc,r];have hp:plc g s= [g.x,mc.x,mc.db,mc.dg]:=by unfold plc plcR;rw [U]
  rw [hp] at O;rw [U] at k;erw[k,k1,k2,dm,fm,Z,ru,tv,gv,em,aa,i1,i2,[bf,ib,jb],i4,i5,i6];exact⟨k1,k2,dm,fm,Z,ru,tv,gv,O _ (by simp) _ em,aa,i1.mono t,i2.mono t,⟨bf,O _ (by simp) _ ib,λz hz=>(jb z hz).mono t⟩,O _ (by simp) _ i4,i5.mono t,i6.mono t⟩
theorem GoAt.there {g:Gc}{s:Gs}(h:GoAt C CM H g s):∀b∈plc g s,∃ob,H b=u_ ob:=by
 erw[h,dx,fs,mv,av,rv,ev,e,f,i,j,k,l];intro b O;rcases A5.mp O with rfl|O
 ·exact[_:e]
 ·cases U:s.run with
  |none=>rw [U] at O;cases O
  |some q=>
   erw[q,mc,r];rw [U] at O k;erw[k,k1,k2,dm,fm,Z,ru,tv,gv,em,aa,i1,i2,[bf,ib,jb],i4,i5,i6];simp only [plcR,uB,uC,uL] at O;rcases O with rfl|rfl|rfl
   ·exact[_:em]
   ·exact[_:ib]
   ·exact[_:i4]
theorem beg_rel {g:Gc}{d:D}{s s':Gs}{p:Gp}(b:BegOk H g d s s')(h:GRel g s p)(U:p.run=UU)(he:p.en=UU):GRel g s' (begP p d)/\∀c∈plc g s',c=g.x∨H c=none:=by
 have hr:=h.none U;have Z:s.en= .non:=by rw [h.en,he];rfl
 have nil:s'.run=UU->∀c∈plc g s',c=g.x∨H c=none:=λe c O=>by
  unfold plc at O;rw [e] at O;rcases A5.mp O with z|z
  ·exact .inl z
  ·cases z
 unfold begP;by_cases c:d= .non
 ·erw[b.lack c,b1,b2];rw [A3 (by rw [c];rfl)]
  exact⟨⟨h.n,b.mb.trans h.mb,b.ra.trans h.ra,(by show _=p.run;rw [b1,U];rfl),(λmc r e=>by rw [b1] at e;cases e),b2⟩,nil b1⟩
 ·rw [A2 (λz=>c (by cases d with|non=>rfl|_=>cases z))]
  cases hd:Q2 d with
  |none=>
   erw[b.rule c hd,b1,b2];exact⟨⟨h.n,b.mb.trans h.mb,b.ra.trans h.ra,(by show _=p.run;rw [b1,U];rfl),(λmc r e=>by rw [b1] at e;cases e),b2⟩,nil b1⟩
  |some rs=>
   erw[b.go rs hd,mc,c1,c2,c3,c4,c5,c6,c7];refine[⟨h.n,b.mb.trans h.mb,b.ra.trans h.ra,?_,λaa r e=> ?_,?_⟩:λc O=> ?_]
   ·rw [c6];show u_ (mc.rs,R0 rs g.n)=u_ (rs,R0 rs p.n);rw [c4,h.n]
   ·rw [c6] at e;cases e;exact c5
   ·rw [c7,h.n,Z];show _=(enOf (R0 rs p.n)).getD .non;unfold enOf;split<;>rfl
   ·unfold plc at O;rw [c6] at O;simp only [plcR,uB,uC,uL] at O;rcases O with z|rfl|rfl|rfl
    ·exact .inl z
    ·exact .inr c1
    ·exact .inr c2
    ·exact .inr c3
noncomputable def runPG:om (oj Rw×Rn)->oj D
 |none=> []
 |some (_,r)=>r.gs
noncomputable def JJ (p:Gp):D:= .tup [.tup (p.ra++runPG p.run),p.en.getD .non]
theorem full_rel {g:Gc}{s:Gs}{p:Gp}(h:GRel g s p):fullD s=JJ p:=by
 unfold fullD JJ;rw [h.ra,h.en];have e:runG s.run=runPG p.run:=by
  rw [<-h.run];cases s.run with
  |none=>rfl
  |some q=>rfl
 rw [e]
theorem full_len {p:Gp}(h:GI p):p.ra.length+(runPG p.run).length<=1000:=by
 have h1:=h.ra.2.2;cases O:p.run with
 |none=>show _+0<=1000;omega
 |some q=>
  erw[q,rs,r];have h2:=(h.run rs r O).2.1;have h3:=h2.gs.2.2;have h4:=h2.n;show _+r.gs.length<=1000;omega
inductive sp_enter (CO CP CG CM:Addr) (vs:List V) (H:Hp) (Q:VK) (E_:XK):Prop
 |mk (o:Oc) (m:Str) (qs:List (Str×D)) (xs:List V) (uk:List (Key×V)) (p:Gp) (_:vs= [.ref o.x,.str m]) (_:OAt CO CP H o qs) (_:Qn qs) (_:H o.ls=u_ (.lst xs)) (_:xs.length<=100000) (_:H o.du=u_ (.dK uk)) (_:uk.length<=100000) (_:g0D m (qD qs m)=u_ p) (_:∀(g:Gc) (s:Gs) (H':Hp),Kp [o.ls,o.du] H H'->H' o.ls=u_ (.lst (xs++ [.ref g.x]))->H' o.du=u_ (.dK (putK uk (UZ m) (.bl v_)))->GoAt CG CM H' g s->GRel g s p->g.o=o.x->(∀b∈plc g s,H b=UU)->Q .non H')
inductive sp_settle (CO CP CG CM:Addr) (vs:List V) (H:Hp) (Q:VK) (E_:XK):Prop
 |mk (o:Oc) (qs:List (Str×D)) (g:Gc) (s:Gs) (p:Gp) (rk fk:List (Key×V)) (_:vs= [.ref o.x,.ref g.x]) (_:OAt CO CP H o qs) (_:GoAt CG CM H g s) (_:GRel g s p) (_:GI p) (_:p.en.isSome=v_) (_:H o.dr=u_ (.dK rk)) (_:rk.length<=100000) (_:H o.df=u_ (.dK fk)) (_:fk.length<=100000) (_:o.dr≠o.df) (_:o.dr∉plc g s) (_:o.df∉plc g s) (_:∀(v1 v2:V) (H':Hp),Kp [o.dr,o.df] H H'->H' o.dr=u_ (.dK (putK rk (UZ g.n) v1))->Is H' (JJ p) v1->H' o.df=u_ (.dK (putK fk (UZ g.n) v2))->Is H' (Qt (p.en.getD .non)) v2->Q .non H')
theorem ok_enter (T:Tx K mg a)(C:Fx K w mg g a):#[K,12,a.Y4,a.YX,["self","name"],(sp_enter a.qq a.qF a.qK a.qp)]:=by
 have yh:=#[wV,T];have O:=#[ok_ginit,T,C];exists 9,T.g_PlainOrder_enter,xl
 erw[h,o,m,qs,xs,uk,p,rfl,hO,hq,U,ap,Z,aq,hp,k];have hs:=uA;exists _,%[#[Qa,#[YR,uK,vh,vi,Yc,#[qN,5,pv 0,rfl],#v[#[zm,T.M_Going,O,hr.mono (),T.m_Going,T.g_Going_init,qB,#v[pv 1,#[Qm,#[qN,5,pv 0,rfl],T.Ya,T.g_Project_source_of,yh,#v[pv 1]],pv 0]]]]]|#[xz,pv 1,je]]
 exists 7
 exists 0,o.x,_,o.dx,_,0,hO.e,T.qx,T.QC,of_st o,.inl [1:_:SqL.of U];exists 0,0,o.x,_,o.dx,_,0,hO.e,T.qx,T.Qc,of_gp o;erw[id hO.p,ak,dp,op,au,hx,hd,hk,hv];refine⟨o.px,ak,0,hx,zL,0,o.px,m,qs,1,hO.p,λsv h1 h2=> ?_⟩;have hm:m∈qs.map (·.1):=(yC qs).gn m p hp;have af:=h1 hm;erw[wS hq hm,hn,kk,e,al,g1,g2];rw [al] at af hp;refine[0:λx dx aa ag nx=> ?_];have s0:Same H (upd (upd H dx (.own x)) x (.ins a.qK dx [])):=λb o h=>by rwa [qk (ql h aa),qk (ql h ag)]
 have nox:o.x≠x:=ql hO.e aa;refine⟨x,dx,o.x,m,kk,sv,e,1,qi,af.mono s0.tk,hn,nox,⟨_,_,s0 _ _ hO.e,X0 o _ ()⟩,λH1 s1 am aw G1 b1 b2=>[1:?_]⟩
 have ac:Same H H1:=λb ob h=>am b ob (s0 b ob h) (ql h aa);have rel:GRel ⟨x,o.x,m⟩ s1 p/\∀c∈plc ⟨x,o.x,m⟩ s1,H c=none:=by
  unfold g0D at hp;simp only at hp;split at hp
  ·cases hp
  ·split at hp
   ·rename_i c
    cases hp;have e1:=b1 c;rw [e1];refine⟨⟨1,1,1,1,(λ_ _ z=>by cases z),1⟩,λc hc=> ?_⟩
    rcases A5.mp hc with rfl|hc
    ·exact aa
    ·cases hc
   ·rename_i c
    cases hp;obtain⟨r1,r2⟩:=beg_rel (p:=⟨m,.non,[],UU,UU⟩) (b2 c) ⟨1,1,1,1,(λ_ _ z=>by cases z),1⟩ rfl rfl
    refine[r1:λc hc=> ?_];rcases r2 c hc with rfl|hc
    ·exact aa
    ·exact s0.free hc
 exists o.ls,xs,0,1,ac _ _ U,()
 have ah:Kp [o.ls,o.du] H1 (upd H1 o.ls (.lst (xs++ [.ref x]))):=⟨λb ob h n=>by rw [qk (λz=>n (by rw [z];exact uf))];exact h,Kept.tk (p:=o.ls) (λb ob h n=>by rwa [qk n]) (ac _ _ U) qi⟩
 have n1:o.du≠o.ls:=λz=>by rw [z,U] at Z;cases Z
 have ad:upd H1 o.ls (.lst (xs++ [.ref x])) o.du=u_ (.dK uk):=by rw [qk n1];exact ac _ _ Z
 have n2:o.x≠o.ls:=λz=>by have:=hO.e;rw [z,U] at this;cases this
 have n3:o.x≠o.du:=λz=>by have:=hO.e;rw [z,Z] at this;cases this
 refine⟨0,o.x,_,o.dx,_,0,(by rw [qk n2];exact ac _ _ hO.e),T.qx,T.Qw,of_uw o,0,o.du,0,DPut.k (k:=UZ m) ad (),?_⟩
 have ao:=((Kp.of (L:= [o.ls,o.du]) ac).trans ah).trans (Kp.updD (ys:=putK uk (UZ m) (.bl v_)) ad (uc _ uf));refine k [x:o.x:m] s1 _ ao (by rw [qk n1.symm];exact qi) qi (G1.frame (λb hb ob h=> ?_) ((ah.trans (Kp.updD (ys:=putK uk (UZ m) (.bl v_)) ad (uc _ uf)))).tk) rel.1 rfl rel.2
 have ae:=rel.2 b hb;have m1:b≠o.ls:=λz=>by rw [z,U] at ae;cases ae
 have m2:b≠o.du:=λz=>by rw [z,Z] at ae;cases ae
 rw [qk m2,qk m1];exact h
theorem ok_settle (T:Tx K mg a):#[K,3,a.YQ,a.Yv,["self","going"],(sp_settle a.qq a.qF a.qK a.qp)]:=by
 have O:=#[ok_full,T];have U:=#[ok_ansby,T];have XR:=#[ok_leave,T];exists 9,T.g_PlainOrder_settle,JY
 erw[h,o,qs,g,st,p,rk,fk,rfl,hO,hG,hR,hI,ae,ac,ay,af,aA,ag,nr,nf,k];have hs:=uA;exists _,%[#[xz,#[qN,5,pv 1,rfl],#[yc,pv 1,T.qR,T.g_Going_full,O]],#[xz,#[qN,5,pv 1,rfl],#[qt,U,hr.mono (),T.g_answer_by,#v[#[qN,5,pv 1,rfl]]]]|#[Qa,#[Qm,pv 0,T.qx,T.g_PlainOrder_leave,XR,#v[pv 1]]]]
 exists 7
 erw[id hG,dx,fs,mv,av,rv,ev,e,f,i,j,aB,l];have aw:o.dr≠g.x:=λz=>nr (by rw [z];exact uf)
 have aC:o.df≠g.x:=λz=>nf (by rw [z];exact uf)
 have ah:o.x≠o.dr:=λz=>by have:=hO.e;rw [z,ac] at this;cases this
 have ak:o.x≠o.df:=λz=>by have:=hO.e;rw [z,af] at this;cases this
 have al:(runG st.run).length=(runPG p.run).length:=by
  have:=full_rel hR;unfold fullD JJ at this;simp only [D.tup.injEq,UE] at this;have:=this.1;rw [hR.ra] at this;rw [List.append_cancel_left this]
 refine⟨0,g.x,dx,fs,1,e,f.meth _ (),g,st,1,hG,(by rw [hR.ra,al];exact full_len hI),λv1 H1 s1 i1=> ?_⟩
 rw [full_rel hR] at i1;exists 0,o.x,_,o.dx,_,0,s1 _ _ hO.e,T.qx,T.Qe,of_fr o,0,g.x,_,dx,fs,0,s1 _ _ e,T.qR,T.Yd,f.zH,o.dr,0,DPut.k (k:=UZ g.n) (s1 _ _ ac) ()
 have ad:Kp [o.dr,o.df] H (upd H1 o.dr (.dK (putK rk (UZ g.n) v1))):=(Kp.of s1).trans (Kp.updD (s1 _ _ ac) uf);generalize Z:upd H1 o.dr (.dK (putK rk (UZ g.n) v1))=H2 at ad⊢;have am:H2 o.dr=u_ (.dK (putK rk (UZ g.n) v1)):=by rw [<-Z];exact qi
 have e2:H2 g.x=u_ (.ins a.qK dx fs):=by rw [<-Z,qk aw.symm];exact s1 _ _ e
 have ao:H2 o.x=u_ (.ins a.qq o.dx (ofs o)):=by rw [<-Z,qk ah];exact s1 _ _ hO.e
 have aa:H2 o.df=u_ (.dK fk):=by rw [<-Z,qk ag.symm];exact s1 _ _ af
 have i2:Is H2 (JJ p) v1:=i1.mono (by rw [<-Z];exact Tk.updD (s1 _ _ ac))
 have l2:Is H2 (p.en.getD .non) ev:=by rw [<-hR.en];exact l.mono ad.tk
 obtain⟨kk,ee,ap⟩:∃kk ee,p.en.getD .non= .tup [.str kk,ee]:=by
  cases aq:p.en with
  |none=>rw [aq] at ae;cases ae
  |some d=>
   rcases hI.en d aq with⟨z,rfl⟩|⟨x,rfl,_⟩|⟨z,rfl⟩
   ·exact[_:0]
   ·exact[_:0]
   ·exact[_:0]
 refine⟨0,g.x,_,dx,fs,0,e2,T.qR,T.QY,f.f_end,ev,kk,ee,1,(by rwa [<-ap]),λv2 H3 s3 i3=> ?_⟩
 rw [<-ap] at i3;exists 0,o.x,_,o.dx,_,0,s3 _ _ ao,T.qx,T.QB,of_fd o,0,g.x,_,dx,fs,0,s3 _ _ e2,T.qR,T.Yd,f.zH,o.df,0,DPut.k (k:=UZ g.n) (s3 _ _ aa) ()
 have au:Tk H3 (upd H3 o.df (.dK (putK fk (UZ g.n) v2))):=Tk.updD (s3 _ _ aa);have ax:Kp [o.dr,o.df] H (upd H3 o.df (.dK (putK fk (UZ g.n) v2))):=(ad.trans (Kp.of s3)).trans (Kp.updD (s3 _ _ aa) (uc _ uf));refine⟨0,o.x,o.dx,0,(by rw [qk ak];exact s3 _ _ ao),X0 o _ (),0,_,0,?_⟩
 exact k v1 v2 _ ax (by rw [qk ag];exact s3 _ _ am) (i2.mono (s3.tk.trans au)) qi (i3.mono au)
end
variable {v:V}
theorem ZC:Vj ("looked_up":Str) [(("by_name":Str),v)]=none:=by rfl
theorem inHN (k:Str):inV (V.str k) [V.str "has",V.str "names"]=isHN k:=by
 have h:=JB k ["has","names"];refine h.trans ?_;unfold isHN;rw [<-Bool.decide_or,uW];simp
section
variable {C CM CO:o3}{H:Hp}{g:Gc}{s:Gs}{p:Gp}{Q:VK}{E:XK}
theorem want_sp (G:GoAt C CM H g s)(R:GRel g s p)(I:GI p)(O:p.en=UU)(U:yD p=u_ m)(k:∀kd v H',Same H H'->isHN kd=UV->Is H' (.tup [.str kd,.str m]) v->Q v H'):Xw C CM [.ref g.x] H Q E:=by
 erw[Wq I O U,hn,h];exists g,s,1,G;rcases h with⟨h1,h2⟩|⟨rs,r,h1,h2⟩
 ·exact .inl ⟨R.none h1,m,by rw [R.mb,h2],λv H' s' i=>k _ v H' s' () i⟩
 ·erw[R.some h1,mc,Z,e2,e3];exact .inr ⟨mc,r,_,Z,h2,λv i=>k _ v H (Same.refl _) () i⟩
theorem want_spO (G:GoAt C CM H g s)(R:GRel g s p)(I:GI p)(O:p.en=UU)(U:yD p=UU)(k:∀rs r kd z v,p.run=u_ (rs,r)->r.th= .tup [.str "asks",.tup [.str kd,.str z]]->isHN kd=v_->isT (.str z)=v_->ownP qs p=y9 p (yM qs kd z)->Is H (.tup [.str kd,.str z]) v->Q v H):Xw C CM [.ref g.x] H Q E:=by
 erw[YS (qs:=qs) I O U,rs,r,kd,z,h1,h2,h3,h4,h5];erw[R.some h1,mc,Z,e2,e3];exact⟨g,s,1,G,.inr ⟨mc,r,_,Z,h2,λv i=>k rs r kd z v h1 h2 h3 h4 h5 i⟩⟩
theorem take_sp (G:GoAt C CM H g s)(R:GRel g s p)(I:GI p)(Z:p.en=UU){d:D}{v:V}(hv:Is H d v)(U:∀rs r,p.run=u_ (rs,r)->∃u q,r.th= .tup [.str "asks",.tup [.str u,q]]/\ansB u d=v_)(aa:g.o≠g.x)(ho:∃dx fs,H g.o=u_ (.ins CO dx fs)/\fs.lookup ("runner":Str)=UU)
  (k:∀H' s',Gw g s.run H H'->GoAt C CM H' g s'->GRel g s' (y9 p d)->(∀b∈plc g s',b∈plc g s∨H b=UU)->Q .non H'):XC C CM CO [.ref g.x,v] H Q E:=by
 refine⟨g,s,v,d,1,G,by rw [R.n];exact I.n,hv,aa,ho,?_⟩
 cases O:p.run with
 |none=>
  erw[I.no O Z,z,hz,_];have hr:=R.none O;refine .inl ⟨hr,z,by rw [R.mb,hz],λH' s' w G' b=> ?_⟩
  obtain⟨r1,r2⟩:=beg_rel (p:=⟨p.n,p.mb,[.tup [.tup [.str "rule",p.mb],d]],UU,UU⟩) b ⟨R.n,R.mb,(by show _= [D.tup [.tup [.str "rule",p.mb],d]];rw [hz]),(by show s.run.map _=UU;rw [hr];rfl),R.own,(by show s.en= .non;rw [R.en,Z];rfl)⟩ rfl rfl
  refine k H' s' w G' ?_ λc hc=> ?_
  ·have:y9 p d=begP ⟨p.n,p.mb,[.tup [.tup [.str "rule",p.mb],d]],UU,UU⟩ d:=by
    unfold y9;rw [O];show begP ⟨p.n,p.mb,_,UU,p.en⟩ d=_;rw [Z]
   rwa [this]
  ·rcases r2 c hc with rfl|h
   ·exact .inl uf
   ·exact .inr h
 |some q=>
  erw[q,rs,r];erw[R.some O,mc,e1,e2,e3];erw[I.run rs r O,k1,k2,k3,k4];erw[U rs r O,u,q,h1,h2];subst e2;refine .inr ⟨mc,r,u,q,e1,e3,k1,k2,h1,h2,λH' w G'=> ?_⟩;have ee:y9 p d={p with run:=u_ (mc.rs,ansS mc.rs p.n r d),en:=enOf (ansS mc.rs p.n r d)}:=by unfold y9;rw [O]
  refine k H' _ w G' ?_ ?_
  ·rw [ee,e3,R.n];unfold lookS enOf;by_cases c:QO (ansS mc.rs p.n r d).th=v_
   ·rw [A3 c,A3 c];exact⟨R.n,R.mb,R.ra,1,(λac r' z=>by cases z;exact e3),(by show s.en= .non;rw [R.en,Z];rfl)⟩
   ·rw [A2 c,A2 c];exact⟨R.n,R.mb,R.ra,1,(λac r' z=>by cases z;exact e3),1⟩
  ·intro b hb;left;unfold plc at hb⊢;rw [e1];unfold lookS at hb;split at hb<;>exact hb
end
noncomputable def LO (o:Oc):oj o3:= [o.ls,o.du,o.dr,o.df]
structure Bs (CO CP:o3)(H0:Hp)(o:Oc)(qs:oj (Str×D)):Prop where
 oa:OAt CO CP H0 o qs
 ls:∃xs,H0 o.ls=u_ (.lst xs)
 du:∃xs,H0 o.du=u_ (.dK xs)
 dr:∃xs,H0 o.dr=u_ (.dK xs)
 df:∃xs,H0 o.df=u_ (.dK xs)
 nd:(LO o).Nodup
 q:Qn qs
section
variable {CO CP:o3}{H0 H H':Hp}{o:Oc}{qs:oj (Str×D)}
theorem Bs.at (b:Bs CO CP H0 o qs)(k:Kp (LO o) H0 H):OAt CO CP H o qs:=b.oa.kp k (by
 intro p O;simp only [LO,uB,uC,uL] at O;rcases O with rfl|rfl|rfl|rfl
 ·exact .inl b.ls
 ·exact .inr (.inl b.du)
 ·exact .inr (.inl b.dr)
 ·exact .inr (.inl b.df))
theorem Bs.new (b:Bs CO CP H0 o qs){c:o3}(h:H0 c=UU):c≠o.x/\c≠o.ls/\c≠o.du/\c≠o.dr/\c≠o.df:=by
 erw[b.ls,_,h1];erw[b.du,_,h2];erw[b.dr,_,h3];erw[b.df,_,h4];exact⟨(ql b.oa.e h).symm,(ql h1 h).symm,(ql h2 h).symm,(ql h3 h).symm,(ql h4 h).symm⟩
theorem Bs.nlo (b:Bs CO CP H0 o qs){c:o3}(h:H0 c=UU):c∉LO o:=by
 erw[b.new h,_,h1,h2,h3,h4];simp only [LO,uB,uC,uL,US];exact⟨h1,h2,h3,h4⟩
theorem kp_more (b:Bs CO CP H0 o qs)(k:Kp (LO o) H0 H)(h:∀c ob,H c=u_ ob->c∉o.df::L->H' c=u_ ob)(t:Tk H H')(O:∀c∈L,H0 c=UU):Kp (LO o) H0 H':=⟨λc ob e n=>h c ob (k.kept c ob e n) (λz=>by
 rcases A5.mp z with rfl|z
 ·exact n (by simp [LO])
 ·rw [O c z] at e;cases e),k.tk.trans t⟩
end
section
variable {qs:oj (Str×D)}{n:Str}{p:Gp}{r don:oj (Str×Gp)}
theorem Kk (U:p.en=UU)(Z:yD p=UU):Sy.nxt #[Y,(n,p)::r,don]=[(n,ownP qs p)::r:don]:=by
 have hf:(SyP qs).fin p=false:=by show p.en.isSome=UV;rw [U];rfl
 have O:(SyP qs).want p=none:=Z;unfold Sy.nxt;simp only;rw [hf,A2 u9,O]
 rfl
theorem nxt_tk (U:p.en=UU)(Z:yD p=u_ m){a:om D}(hy:Sy.yet #[Y,(n,p)::r,don] m=u_ (u_ a)):Sy.nxt #[Y,(n,p)::r,don]=[(n,y9 p (a.getD .non))::r:don]:=by
 have hf:(SyP qs).fin p=false:=by show p.en.isSome=UV;rw [U];rfl
 have O:(SyP qs).want p=u_ m:=Z;unfold Sy.nxt;simp only;rw [hf,A2 u9,O];simp only;rw [hy]
 rfl
theorem nxt_stk (U:p.en=UU)(Z:yD p=u_ m)(hy:Sy.yet #[Y,(n,p)::r,don] m=u_ UU):Sy.nxt #[Y,(n,p)::r,don]=[(n,stkP p m)::r:don]:=by
 have hf:(SyP qs).fin p=false:=by show p.en.isSome=UV;rw [U];rfl
 have O:(SyP qs).want p=u_ m:=Z;unfold Sy.nxt;simp only;rw [hf,A2 u9,O];simp only;rw [hy]
 rfl
theorem nxt_push (Z:p.en=UU)(hw:yD p=u_ m)(U:Sy.yet #[Y,(n,p)::r,don] m=UU):∃p',g0D m (qD qs m)=u_ p'/\Sy.nxt #[Y,(n,p)::r,don]=[(m,p')::(n,p)::r:don]:=by
 have hf:(SyP qs).fin p=false:=by show p.en.isSome=UV;rw [Z];rfl
 have O:(SyP qs).want p=u_ m:=hw;erw[Sy.jJ U,_,[p',e],_];exists p',e;unfold Sy.nxt;simp only;rw [hf,A2 u9,O];simp only;rw [U];simp only;rw [e]
theorem nxt_pop {d:D}(O:p.en=u_ d):Sy.nxt #[Y,(n,p)::r,don]=[r:don++ [(n,p)]]:=by
 have U:(SyP qs).fin p=true:=by show p.en.isSome=v_;rw [O];rfl
 unfold Sy.nxt;simp only;rw [U,A3 rfl]
 rfl
end
theorem ansB_thing {d:D}(h:Xv d):ansB "thing" d=true:=by
 unfold ansB;rcases h with rfl|h
 ·rfl
 ·cases hn:wu d with
  |true=>rfl
  |false=>
   rw [A2 u9,A3 h,A2 ()]
   rfl
structure Rnd {qs:oj (Str×D)}(CG CM:o3)(H0 H H1:Hp)(o:Oc)(S:Sy.Ss (SyP qs))(L0:oj o3)(g:Gc)(s1:Gs)(n:Str)(p1:Gp)(r:oj (Str×Gp))(fk1:oj (Key×V))(top:Nat):Prop where
 st:∃j,#[Y,(n,p1)::r,S.don]=Sy.nx S j
 len:fk1.length+Sy.mu #[Y,(n,p1)::r,S.don]<=top
 kp:∀b ob,H b=u_ ob->b∉o.df::L0->H1 b=u_ ob
 tk:Tk H H1
 df:H1 o.df=u_ (.dK fk1)
 fd:FdOk H1 S fk1
 go:GoAt CG CM H1 g s1
 rel:GRel g s1 p1
 pl:∀b∈plc g s1,b∈L0∨H b=UU/\H0 b=UU
 gi:SGI #[Y,(n,p1)::r,S.don]
inductive sp_gon (CO CP CG CM:Addr) (vs:List V) (H:Hp) (Q:VK) (E_:XK):Prop
 |mk (H0:Hp) (o:Oc) (qs:List (Str×D)) (g:Gc) (s:Gs) (n:Str) (p:Gp) (r don:List (Str×Gp)) (uk fk:List (Key×V)) (top:Nat) (_:vs= [.ref o.x,.ref g.x]) (_:Bs CO CP H0 o qs) (_:Kp (LO o) H0 H) (_:H o.du=u_ (.dK uk)) (_:UkOk #[Y,(n,p)::r,don] uk) (_:(∀q∈don,q.2.en.isSome=v_)) (_:top<=100000) (_:g.o=o.x) (_:(∀b∈plc g s,H0 b=UU)) (_:Rnd CG CM H0 H H o #[Y,(n,p)::r,don] (plc g s) g s n p r fk top) (_:∀(v:V) (H':Hp) (s':Gs) (p':Gp) (fk':List (Key×V)),Rnd CG CM H0 H H' o #[Y,(n,p)::r,don] (plc g s) g s' n p' r fk' top->((v= .non/\p'.en.isSome=v_)∨∃m,v= .str m/\p'.en=UU/\yD p'=u_ m/\Sy.yet #[Y,(n,p')::r,don] m=UU)->Q v H')
theorem Rnd.more {qs:oj (Str×D)}{CG CM CO CP:o3}{H0 H H1 H2 H3:Hp}{o:Oc}{S:Sy.Ss (SyP qs)}{L0:oj o3}{g:Gc}{s1 s3:Gs}{n:Str}{p1 p3:Gp}{r:oj (Str×Gp)}{fk1 U:oj (Key×V)}{top:Nat}(b:Bs CO CP H0 o qs)(k0:Kp (LO o) H0 H)(hL:∀b∈L0,H0 b=UU)(h:Rnd CG CM H0 H H1 o S L0 g s1 n p1 r fk1 top)(k2:Kp [o.df] H1 H2)(f2:H2 o.df=u_ (.dK U))(d2:FdOk H2 S U)(l2:U.length<=fk1.length+1)
  (ac:∀b ob,H2 b=u_ ob->b∉plc g s1->H3 b=u_ ob) (t3:Tk H2 H3) (G3:GoAt CG CM H3 g s3) (R3:GRel g s3 p3) (ae:∀b∈plc g s3,b∈plc g s1∨H2 b=UU) (e:Sy.nxt #[Y,(n,p1)::r,S.don]=[(n,p3)::r:S.don]):
  Rnd CG CM H0 H H3 o S L0 g s3 n p3 r U top/\Sy.mu #[Y,(n,p3)::r,S.don]<Sy.mu #[Y,(n,p1)::r,S.don]:=by
 have ad:=Sy.nxt_mu (yC qs) (S:=#[Y,(n,p1)::r,S.don]) (by intro z;cases z)
 rw [e] at ad;have af:∀b∈plc g s1,H0 b=none:=λb hb=>(h.pl b hb).elim (hL b) (·.2);have nf:o.df∉plc g s1:=λz=>(b.new (af _ z)).2.2.2.2 rfl;have ag:∀b ob,H1 b=u_ ob->b∉o.df::plc g s1->H3 b=u_ ob:=λc ob q z=>ac c ob (k2.kept c ob q (λy=>z (by rw [A6.mp y];exact uf))) (λy=>z (uc _ y))
 refine⟨⟨?_,by have:=h.len;omega,λc ob q z=> ?_,(h.tk.trans k2.tk).trans t3,ac _ _ f2 nf,d2.mono t3,G3,R3,λc Z=> ?_,?_⟩,ad⟩
 ·erw[h.st,j,hj];exact⟨j+1,by show _=Sy.nxt (Sy.nx S j);rw [<-hj,e]⟩
 ·refine ag c ob (h.kp c ob q z) λy=> ?_;rcases A5.mp y with rfl|y
  ·exact z uf
  ·rcases h.pl c y with y|⟨y,_⟩
   ·exact z (uc _ y)
   ·rw [q] at y;cases y
 ·rcases ae c Z with Z|Z
  ·exact h.pl c Z
  ·have O:H1 c=none:=by
    cases hq:H1 c with
    |none=>rfl
    |some ob=>
     by_cases y:c=o.df
     ·rw [y,f2] at Z;cases Z
     ·rw [k2.kept c ob hq (λz=>y (A6.mp z))] at Z;cases Z
   by_cases c0:c∈L0
   ·exact .inl c0
   ·right;have aa:H c=none:=by
     cases hq:H c with
     |none=>rfl
     |some ob=>
      by_cases y:c=o.df
      ·rw [y,h.df] at O;cases O
      ·rw [h.kp c ob hq (λz=>by rcases A5.mp z with z|z;exact y z;exact c0 z)] at O;cases O
    exists aa;cases hq:H0 c with
    |none=>rfl
    |some ob=>
     by_cases y:c∈LO o
     ·have:=kp_more b k0 h.kp h.tk hL;simp only [LO,uB,uC,uL] at y;have keep:∀x,(∃xs,H0 x=u_ (.lst xs))∨(∃xs,H0 x=u_ (.dK xs))->H1 x≠none:=λx hx hn=>by
       rcases hx with⟨xs,hx⟩|⟨xs,hx⟩
       ·erw[this.tk.lst x xs hx,ys,hy];rw [hy] at hn;cases hn
       ·erw[this.tk.dct x xs hx,ys,hy];rw [hy] at hn;cases hn
      rcases y with rfl|rfl|rfl|rfl
      ·exact absurd O (keep _ (.inl b.ls))
      ·exact absurd O (keep _ (.inr b.du))
      ·exact absurd O (keep _ (.inr b.dr))
      ·exact absurd O (keep _ (.inr b.df))
     ·rw [k0.kept c ob hq y] at aa;cases aa
 ·have:=nxt_gi b.q h.gi;rwa [e] at this
section
variable {P:o9}{w:og}{K:o0}{mg:Str->om o6}{base:o8}{a:Ad}{g:Ga}
theorem ok_gon (T:Tx K mg a)(C:Fx K w mg g a):#[K,11,a.Y0,a.YW,["self","going"],(sp_gon a.qq a.qF a.qK a.qp)]:=by
 have Wi:=#[ok_wanted,T];have Je:=#[ok_gtake,T,C];have yk:=#[ok_looked,T];have qO:=#[ok_yet,T];exists 9,T.g_PlainOrder_go_on,ym
 erw[h,H0,o,qs,Z,st,n,p,r,don,uk,fk,top,rfl,hB,hK,aK,hU,ap,aX,aq,hL,h0,k];have hs:=uA;exists _,%[#[Xm,#[qr,YO,#[qN,5,pv 1,rfl],Qb,qC _],%[#[qE,(2),ym.nd,#[yc,pv 1,T.qR,T.g_Going_wanted,Wi]],#[qI,#[qr,QA,#[qQ,qP,pv 2,qm],#[qG,#v[qo,qo]],#[w]],%[#[Qa,#[Qm,pv 1,T.qR,T.g_Going_take,Je,#v[#[Qm,#[qN,5,pv 0,rfl],T.Ya,T.g_Project_looked_up,yk,#v[pv 2]]]]]|ps_continue],qy],#[qE,(3),ym.nd,#[Qm,pv 0,T.qx,T.g_PlainOrder_answer_yet,qO,#v[#[qQ,qP,pv 2,qm]]]],#[qI,#[qr,YO,pv 3,Qb,qC _],%[|#[qu,#[qQ,qP,pv 2,qm]]],qy]|#[qI,#[qr,QD,#[qQ,qP,pv 3,qm],qo,qC _],%[|#[Qa,#[Qm,pv 1,T.qR,T.g_Going_take,Je,#v[#[qQ,qP,pv 3,qm]]]]],%[|#[qI,#[qr,QD,#[qQ,qP,pv 3,qm],qo,qC _],%[|#[Qa,#[Qm,pv 1,T.qR,T.g_Going_take,Je,#v[Qb]]]],%[|#[Qd,8,pv 1,#[qG,#v[qo,#[qQ,qP,pv 2,qm]]],rfl]]]]]]]|#[qu,Qb]]
 exists 7
 let J_:Nat->L2.St->Hp->Prop:=λmm σ H1=>∃(s1:Gs) (p1:Gp) (fk1:oj (Key×V)) (u3 u4:om V),σ= [u_ (.ref o.x),u_ (.ref Z.x),u3,u4]/\mm=Sy.mu #[Y,(n,p1)::r,don]/\Rnd a.qK a.qp H0 H H1 o #[Y,(n,p)::r,don] (plc Z st) Z s1 n p1 r fk1 top
 exists J_,⟨_,st,p,fk,UU,UU,1,1,h0⟩;rintro mm σ H1 ⟨s1,p1,fk1,u3,u4,rfl,rfl,O⟩;have aL:=kp_more hB hK O.kp O.tk hL;have aa:=hB.at aL;have au:∀b∈plc Z s1,H0 b=none:=λb hb=>(O.pl b hb).elim (hL b) (·.2);erw[O.gi (n,p1) (.inl uf),hI,aZ];have hI:GI p1:=hI;have aw:H1 o.du=u_ (.dK uk):=O.kp _ _ aK (λz=>by
  rcases A5.mp z with z|z
  ·have:=hB.nd;simp [LO] at this;exact this.2.1.2 z
  ·exact(hB.new (hL _ z)).2.2.1 rfl)
 erw[id O.go,dx,fs,mv,av,rv,ev,e,f,i,j,a1,l];have a2:fs.length<1000:=by have:=f.len;omega
 exists 0,Z.x,_,dx,fs,0,e,T.qR,T.QY,f.f_end,1,0;cases he:p1.en with
 |some d=>
  have l':Is H1 d ev:=by have:=l;rwa [O.rel.en,he] at this
  have aM:d≠ .non:=by rcases hI.en d he with⟨z,rfl⟩|⟨x,rfl,_⟩|⟨z,rfl⟩<;>(intro z;cases z)
  refine iteN (ud (zk l' aM)) ?_;exact k _ H1 s1 p1 fk1 O (.inl ⟨1,by rw [he];rfl⟩)
 |none=>
  have l':Is H1 .non ev:=by have:=l;rwa [O.rel.en,he] at this
  cases(show ev= .non from l')
  refine iteB (ub rfl) ?_;exists λσ' H'=>∃m',m'<Sy.mu #[Y,(n,p1)::r,don]/\J_ m' σ' H',λ_ _ h=>h;exists 8,B1,b1;have ax:Z.o≠Z.x:=by rw [aq];exact(hB.new (hL _ uf)).1.symm
  have ak:∀H2:Hp,(∀b ob,H1 b=u_ ob->b∉o.df::plc Z s1->H2 b=u_ ob)->∃dx fs,H2 Z.o=u_ (.ins a.qq dx fs)/\fs.lookup ("runner":Str)=none:=λH2 h2=>⟨_,_,(by rw [aq];exact h2 _ _ aa.e (λz=>by
   rcases A5.mp z with z|z
   ·have:=aa.e;rw [z,O.df] at this;cases this
   ·exact(hB.new (au _ z)).1 rfl)),X0 o _ ()⟩
  cases hw:yD p1 with
  |none=>
   exists 0,Z.x,dx,fs,1,e,f.meth _ ()
   refine want_spO (E:=E0) (qs:=qs) O.go O.rel hI he hw λrs rr kd z v ay al ac hz aA hv=>b1 _ _ ?_;exists 8,B2,b2;erw[id hv,q,ws,rfl,hq,w1,r1,rfl,[rfl,aN],w2,r2,rfl,[rfl,aB],h3];cases(show r2= [] from h3)
   refine⟨0,q,_,_,0,1,SqT.of hq,1,(sml rfl),λt ht=> ?_⟩;have s2:=qh ht (.tup [V.str "has",V.str "names"]);exists t,0,.inr (SqT.of qi),1,1,0;refine iteB ((inHN kd).trans ac) ?_;erw[id aa.p,aO,dp,op,a3,hx,hd,hk,a4];have a5:z.length<=300:=by
    have:=QZ hz;simp only [good,Qx,uw,v9] at this;exact this.1
   erw[ZM hB.q z ac,a6,aP];generalize a7:upd H1 t (.tup [V.str "has",V.str "names"])=H2 at s2⊢;have fin:∀(u:V) (H3:Hp),Same H2 H3->Is H3 (yM qs kd z) u->XC a.qK a.qp a.qq [.ref Z.x,u] H3 (λ_ H4=>∃m',m'<Sy.mu #[Y,(n,p1)::r,don]/\J_ m' [u_ (.ref o.x),u_ (.ref Z.x),u_ (.ref q),u4] H4) E0:=λu H3 s3 hu=>by
    have U:=s2.trans s3;refine take_sp (O.go.same U) O.rel hI he hu (λaQ r' e'=> ?_) ax (ak H3 λb ob h _=>U b ob h) λH4 s4 w4 G4 R4 aR=> ?_
    ·rw [ay] at e';cases e';exact⟨kd,_,al,aP⟩
    ·rw [<-aA] at R4;have kq:∀b ob,H3 b=u_ ob->b∉plc Z s1->H4 b=u_ ob:=λb ob h n=>w4.kept b ob h (λy=>n (by rw [y];exact uf)) (λmc r' y=>by
      unfold plc at n;rw [y] at n;simp only [plcR,uB,uC,uL,US] at n;exact[n.2.1:n.2.2.1:n.2.2.2])
     erw[O.more hB hK hL (Kp.of U) (U _ _ O.df) (O.fd.mono U.tk) (Ha _) kq w4.tk G4 R4 aR (Kk he hw),m1,m2];exact⟨_,m2,s4,_,fk1,_,0,1,m1⟩
   exists 0,Z.x,dx,fs,1,s2 _ _ e,f.meth _ ()
   exists 0,o.x,_,o.dx,_,0,s2 _ _ aa.e,T.qx,T.Qc,of_gp o;exists o.px,aO,0,s2 _ _ hx,ZC,0,o.px,q,kd,z,qs,1,aa.p.same s2,hB.q,s2 _ _ hq,()
   have aC:kd="has"∨kd≠"has"/\kd="names":=by
    unfold isHN at ac;by_cases c:kd="has"
    ·exact .inl c
    ·rw [ud c,FN] at ac;exact .inr [c:uj ac]
   rcases aC with c|⟨c',c⟩
   ·refine .inl [c:fin _ H2 (Same.refl _) ?_];unfold yM;rw [A3 c];exact Jd (by split<;>decide)
   ·refine .inr [c:λu H3 s3 hu=>fin u H3 s3 ?_];unfold yM;rwa [A2 c']
  |some m=>
   erw[Wq hI he hw,a8,al];exists 0,Z.x,dx,fs,1,e,f.meth _ ()
   refine want_sp (E:=E0) O.go O.rel hI he hw λkd v H2 s2 ac hv=>b1 _ _ ?_;exists 8,B2,b2;erw[id hv,q,ws,rfl,hq,w1,r1,rfl,[rfl,aN],w2,r2,rfl,[rfl,aB],h3];cases(show r2= [] from h3)
   refine⟨0,q,_,_,0,1,SqT.of hq,1,(sml rfl),λt ht=> ?_⟩;have s3:=qh ht (.tup [V.str "has",V.str "names"]);exists t,0,.inr (SqT.of qi),1,1,0;refine iteN ((inHN kd).trans ac) (b2 _ _ ?_);exists 8,B3,b3;generalize upd H2 t (.tup [V.str "has",V.str "names"])=H3 at s3⊢;have U:=s2.trans s3;have aD:=s3 _ _ hq;have aE:SGI #[Y,(n,p1)::r,don]:=O.gi;exists 0,o.x,o.dx,0,U _ _ aa.e,X0 o _ ()
   refine⟨0,q,_,_,0,1,SqT.of aD,1,o,m,qs,#[Y,(n,p1)::r,don],uk,fk1,1,[U _ _ aa.e:aa.p.same U],hB.q,aE,U _ _ aw,hU,U _ _ O.df,O.fd.mono U.tk,(by have:=O.len;omega),ap,λu H4 am k4 f4 d4 l4 aS y4=> ?_⟩
   have ad:Kp [o.df] H1 H4:=(Kp.of U).trans k4;have aF:H4 q=u_ (.tup [V.str kd,V.str m]):=k4.tk.tup _ _ aD;have aT:o.df∉plc Z s1:=λz=>(hB.new (au _ z)).2.2.2.2 rfl;have G4:GoAt a.qK a.qp H4 Z s1:=O.go.frame (λb hb ob h=>ad.kept b ob h (λz=>aT (by rwa [<-A6.mp z]))) ad.tk
   erw[id G4,ao,ae,a9,ba,bb,bc,e4,af,i4,j4,aG,bd];refine b3 _ _ ?_;exists 8,B4,b4;exists 0,1,0;unfold YetIs at y4;cases hy:Sy.yet #[Y,(n,p1)::r,don] m with
   |none=>
    rw [hy] at y4;cases(show u= .non from y4)
    refine iteB (ub rfl) ⟨0,q,_,_,0,1,SqT.of aF,1,?_⟩;refine k _ H4 s1 p1 am ⟨O.st,(by rw [aS hy];exact O.len),λb ob h z=>ad.kept b ob (O.kp b ob h z) (λy=>z (by rw [A6.mp y];exact uf)),O.tk.trans ad.tk,f4,d4,G4,O.rel,O.pl,O.gi⟩ (.inr ⟨m,1,he,hw,hy⟩)
   |some oa=>
    rw [hy] at y4;erw[y4,d,hd,ha,_];have sh:∃kk rr,d= .tup (.str kk::rr):=by
     cases oa with
     |none=>erw[ha,kk,rr,h,_];exact[kk:rr:h]
     |some x=>cases x with
      |none=>exact[_:_:ha]
      |some y=>exact[_:_:ha]
    erw[sh,kk,rr,rfl];erw[id hd,qa,wa,rfl,ag,w1,r1,rfl,[rfl,aY],h3];refine iteN (ud (λz=>by cases z)) (b4 _ _ ?_)
    exists 0,qa,_,_,0,1,SqT.of ag,Ql (j:=0) rfl,1,0;have fin:∀(dd:D) (u:V),Is H4 dd u->Xv dd->Sy.nxt #[Y,(n,p1)::r,don]=⟨(n,y9 p1 dd)::r,don⟩->XC a.qK a.qp a.qq [.ref Z.x,u] H4 (λ_ H5=>∃m',m'<Sy.mu #[Y,(n,p1)::r,don]/\J_ m' [u_ (.ref o.x),u_ (.ref Z.x),u_ (.ref q),u_ (.ref qa)] H5) E0:=λdd u hu hok ah=>by
     refine take_sp G4 O.rel hI he hu (λaQ r' e'=> ?_) ax (ak H4 λb ob h n=>ad.kept b ob h (λz=>n (by rw [A6.mp z];exact uf))) λH5 s5 w5 G5 R5 aU=> ?_
     ·rcases al with⟨h1,_⟩|⟨rs,rr,h1,h2⟩
      ·rw [h1] at e';cases e'
      ·rw [h1] at e';cases e';exact⟨"thing",_,h2,ansB_thing hok⟩
     ·have kq:∀b ob,H4 b=u_ ob->b∉plc Z s1->H5 b=u_ ob:=λb ob h n=>w5.kept b ob h (λy=>n (by rw [y];exact uf)) (λmc r' y=>by
       unfold plc at n;rw [y] at n;simp only [plcR,uB,uC,uL,US] at n;exact[n.2.1:n.2.2.1:n.2.2.2])
      erw[O.more hB hK hL ad f4 d4 l4 kq w5.tk G5 R5 aU ah,m1,m2];exact⟨_,m2,s5,_,am,_,0,1,m1⟩
    cases oa with
    |some x=>
     have hok:=yet_ok hB.q aE hy;have ah:=nxt_tk he hw hy;cases x with
     |some y=>
      cases(show D.tup (.str kk::rr)= .tup [.str "value",y] from ha)
      erw[h3,w5,r5,rfl,h5,h6];cases(show r5= [] from h6)
      refine iteB (ub rfl) ?_;exact⟨0,Z.x,ao,ae,1,e4,af.meth _ (),0,qa,_,_,0,1,SqT.of ag,1,fin y w5 h5 hok ah⟩
     |none=>
      cases(show D.tup (.str kk::rr)= .tup [.str "lack"] from ha)
      refine iteN () ?_
      exists 0,qa,_,_,0,1,SqT.of ag,Ql (j:=0) rfl,1,0;refine iteB (ub rfl) ?_;exact⟨0,Z.x,ao,ae,1,e4,af.meth _ (),fin .non .non rfl hok ah⟩
    |none=>
     erw[ha,k2,r2,e5,c1,c2];cases e5;refine iteN (ud (λz=>c1 (V.str.inj z))) ?_;exists 0,qa,_,_,0,1,SqT.of ag,Ql (j:=0) rfl,1,0;refine iteN (ud (λz=>c2 (V.str.inj z))) ?_;refine⟨0,q,_,_,0,1,SqT.of aF,1,(sml rfl),λt5 aH=> ?_⟩;have s5:=qh aH (.tup [V.str "stuck",V.str m]);have aI:ae.length<1000:=by have:=af.len;omega
     exists 0,Z.x,_,ao,ae,1,s5 _ _ e4,T.qR,T.QY,aI;have aV:=Is.new (H:=H4) (ds:= [.str "stuck",.str m]) (p:=t5) ⟨_,0,Jd (),_,0,[1:aB],1⟩ aH
     erw[ka (C:=a.qK) (CM:=a.qp) (g:=Z) (s:={s1 with en:= .tup [.str "stuck",.str m]}) (s5 _ _ e4) (af.set_end (u:= .ref t5)) (i4.mono s5.tk) (j4.mono s5.tk) (aG.same s5) aV,g1,g2]
     have aJ:GRel Z {s1 with en:= .tup [.str "stuck",.str m]} (stkP p1 m):=⟨O.rel.n,O.rel.mb,O.rel.ra,O.rel.run,O.rel.own,1⟩
     have aW:Kp [o.df] H1 (upd H4 t5 (.tup [V.str "stuck",V.str m])):=ad.trans (Kp.of s5);obtain⟨m1,m2⟩:=O.more hB hK hL aW (s5 _ _ f4) (d4.mono s5.tk) l4 (λb ob h n=>g2.kept b ob h (λy=>n (by rw [y];exact uf))) g2.tk g1 aJ (λb hb=> .inl hb) (nxt_stk he hw hy)
     exact⟨_,m2,_,_,am,_,0,1,m1⟩
noncomputable def xp (CG CM:o3)(H:Hp)(ox:o3):oj (Gc×Gs)->oj (Str×Gp)->Prop
 | [],[]=>True
 |q::t,p::l=>GoAt CG CM H q.1 q.2/\GRel q.1 q.2 p.2/\q.1.o=ox/\xp CG CM H ox t l
 |_,_=>False
noncomputable def plcs:oj (Gc×Gs)->oj o3
 | []=> []
 |q::t=>plc q.1 q.2++plcs t
noncomputable def Sep:oj (Gc×Gs)->Prop
 | []=>True
 |q::t=>(∀b∈plc q.1 q.2,b∉plcs t)/\Sep t
theorem xp.frame {CG CM ox:o3}{H H':Hp}:∀{st:oj (Gc×Gs)}{l:oj (Str×Gp)},xp CG CM H ox st l->(∀b∈plcs st,∀ob,H b=u_ ob->H' b=u_ ob)->Tk H H'->xp CG CM H' ox st l
 | [],[],_,_,_=>trivial
 | [],_::_,h,_,_=>h.elim
 |_::_,[],h,_,_=>h.elim
 |q::t,p::l,⟨h1,h2,h3,h4⟩,hk,tk=>⟨h1.frame (λb O=>hk b (vg _ O)) tk,h2,h3,xp.frame h4 (λb O=>hk b (uI _ O)) tk⟩
theorem xp.there {CG CM ox:o3}{H:Hp}:∀{st:oj (Gc×Gs)}{l:oj (Str×Gp)},xp CG CM H ox st l->∀b∈plcs st,∃ob,H b=u_ ob
 | [],[],_=>λb O=>by cases O
 | [],_::_,h=>h.elim
 |_::_,[],h=>h.elim
 |q::t,p::l,⟨h1,h2,h3,h4⟩=>λb O=>by
  rcases A7.mp O with O|O
  ·exact h1.there b O
  ·exact xp.there h4 b O
theorem xp.len {CG CM ox:o3}{H:Hp}:∀{st:oj (Gc×Gs)}{l:oj (Str×Gp)},xp CG CM H ox st l->st.length=l.length
 | [],[],_=>rfl
 | [],_::_,h=>h.elim
 |_::_,[],h=>h.elim
 |q::t,p::l,⟨h1,h2,h3,h4⟩=>by rw [ui,ui,xp.len h4]
theorem lfts_len {Y:Sy}:∀l:oj (Str×Y.G),l.length<=Sy.lfts l
 | []=>uh _
 |(_,g)::r=>by
  have:=lfts_len r;show r.length+1<=Y.lft g+1+Sy.lfts r;omega
theorem mu_S0 (O:Qn qs)(n:Str):Sy.mu (Sy.S0 (SyP qs) n)<=20000:=by
 have U:=O.2.2;have Z:∀S:Sy.Ss (SyP qs),(Sy.rest S).length<=60:=λS=>by
  have h1:(Sy.rest S).length<=(qs.map (·.1)).length:=Uj _ _;rw [ua] at h1;omega
 unfold Sy.mu;have h2:=Z (Sy.S0 (SyP qs) n);have h3:(SyP qs).M=302:=rfl;rw [h3];have h4:Sy.lfts (Sy.S0 (SyP qs) n).stk<=303:=by
  unfold Sy.S0;cases hg:(SyP qs).g0 n with
  |none=>exact uU _
  |some g=>
   have:=(yC qs).l0 n g hg;show(SyP qs).lft g+1+0<=303;have h3:(SyP qs).M=302:=rfl;omega
 omega
structure OI {qs:oj (Str×D)}(CG CM:o3)(H0 H:Hp)(o:Oc)(n0:Str)(S:Sy.Ss (SyP qs))(st:oj (Gc×Gs))(uk rk fk:oj (Key×V)):Prop where
 kp:Kp (LO o) H0 H
 nx:∃j,S=Sy.nx (Sy.S0 (SyP qs) n0) j
 ls:H o.ls=u_ (.lst (st.reverse.map λq=>V.ref q.1.x))
 du:H o.du=u_ (.dK uk)
 uo:UkOk S uk
 ul:uk.length+Sy.mu S<=20001
 dr:H o.dr=u_ (.dK rk)
 rks:rk.map (·.1)=S.don.map λp=>UZ p.1
 rv:L2.IsL H (S.don.map λp=>JJ p.2) (rk.map (·.2))
 rl:S.don.length+Sy.mu S<=20001
 df:H o.df=u_ (.dK fk)
 fd:FdOk H S fk
 fl:fk.length+Sy.mu S<=20001
 stk:xp CG CM H o.x st S.stk
 new:∀b∈plcs st,H0 b=UU
 sep:Sep st
 gi:SGI S
 fin:∀q∈S.don,(Gp.en q.2).isSome=v_
 nd:(S.stk.map (·.1)++S.don.map (·.1)).Nodup
theorem S0_nd (n:Str)(j:Nat):((Sy.nx (Sy.S0 (SyP qs) n) j).stk.map (·.1)++(Sy.nx (Sy.S0 (SyP qs) n) j).don.map (·.1)).Nodup:=by
 cases O:(SyP qs).g0 n with
 |some g=>exact(Sy.nx_ok (yC qs) (Sy.S0_ok O) j).nd
 |none=>
  have e:Sy.nx (Sy.S0 (SyP qs) n) j=⟨[],[]⟩:=by
   have U:Sy.S0 (SyP qs) n=⟨[],[]⟩:=by unfold Sy.S0;rw [O]
   rw [U]
   induction j with
   |zero=>rfl
   |succ j Z=>show Sy.nxt _=_;rw [Z];rfl
  rw [e];exact vX
inductive sp_thru (CO CP:Addr) (vs:List V) (H:Hp) (Q:VK) (E_:XK):Prop
 |mk (o:Oc) (qs:List (Str×D)) (n:Str) (_:vs= [.ref o.x,.str n]) (_:Bs CO CP H o qs) (_:H o.ls=u_ (.lst [])) (_:H o.du=u_ (.dK [])) (_:H o.dr=u_ (.dK [])) (_:H o.df=u_ (.dK [])) (_:∀(H':Hp) (rk uk fk:List (Key×V)) (don:List (Str×Gp)) (j:Nat),H' o.du=u_ (.dK uk)->UkOk #[Y,[],don] uk->H' o.df=u_ (.dK fk)->FdOk H' #[Y,[],don] fk->fk.length<=20001->SGI #[Y,[],don]->Kp (LO o) H H'->Sy.nx (Sy.S0 (SyP qs) n) j=⟨[],don⟩->H' o.dr=u_ (.dK rk)->(rk.map (·.1)=don.map λp=>UZ p.1)->L2.IsL H' (don.map λp=>JJ p.2) (rk.map (·.2))->(∀p∈don,GI p.2/\p.2.en.isSome=v_)->don.length<=20001->Q .non H')
theorem kK {α:Type}{xs:oj α}{x:α}:atI (xs++ [x]) (-1)=u_ x:=by
 unfold atI ixN;have O:(xs++ [x]).length=xs.length+1:=by simp
 rw [A2 (),A3 ()]
 show(xs++ [x])[(-1+((xs++ [x]).length:Int)).toNat]? =u_ x;rw [show(-1+((xs++ [x]).length:Int)).toNat=xs.length by omega]
 simp
theorem nx_add {Y:Sy}(S:Sy.Ss Y)(i:Nat):∀j,Sy.nx S (i+j)=Sy.nx (Sy.nx S i) j
 |0=>rfl
 |j+1=>by show Sy.nxt (Sy.nx S (i+j))=Sy.nxt (Sy.nx (Sy.nx S i) j);rw [nx_add S i j]
theorem nx_le {qs:oj (Str×D)}(S:Sy.Ss (SyP qs)):∀j,Sy.mu (Sy.nx S j)<=Sy.mu S
 |0=>uh _
 |j+1=>by
  have h:=nx_le S j;show Sy.mu (Sy.nxt (Sy.nx S j))<=_;by_cases c:(Sy.nx S j).stk= []
  ·have e:Sy.nxt (Sy.nx S j)=Sy.nx S j:=by unfold Sy.nxt;rw [c]
   rwa [e]
  ·have:=Sy.nxt_mu (yC qs) c;omega
theorem ok_thru (T:Tx K mg a)(C:Fx K w mg g a):#[K,13,a.yr,a.yt,["self","name"],(sp_thru a.qq a.qF)]:=by
 have qO:=#[ok_yet,T];have YZ:=#[ok_enter,T,C];have Xf:=#[ok_gon,T,C];have xD:=#[ok_settle,T];exists 9,T.g_PlainOrder_go_through,QH
 erw[h,o,qs,n,rfl,hB,bD,bg,bE,bF,k];have hs:=uA;have hO:=hB.oa;exists _,%[#[qI,#[qr,YO,#[Qm,pv 0,T.qx,T.g_PlainOrder_answer_yet,qO,#v[pv 1]],Qb,qC _],%[|#[Qa,#[Qm,pv 0,T.qx,T.g_PlainOrder_enter,YZ,#v[pv 1]]]],qy]|#[Xm,#[pt_truth,3,#[qN,5,pv 0,rfl],(λ_=>rfl)],%[#[qE,(2),QH.nd,#[qQ,yd,#[qN,5,pv 0,rfl],#[pe_un,6,un_neg,qm]]],#[qE,(3),QH.nd,#[Qm,pv 0,T.qx,T.g_PlainOrder_go_on,Xf,#v[pv 2]]]|#[qI,#[qr,YO,pv 3,Qb,qC _],%[#[Qa,#[pe_bm0,9,uK,PySem.F.slot_list_pop,PySem.F.type_list_pop,mt_pop,#[qN,5,pv 0,rfl],_,_]],#[Qa,#[pe_dpop1,7,#[qN,5,pv 0,rfl],#[qN,5,pv 2,rfl],⟨1,1,1,1⟩]]|#[Qa,#[Qm,pv 0,T.qx,T.g_PlainOrder_settle,xD,#v[pv 2]]]],%[|#[Qa,#[Qm,pv 0,T.qx,T.g_PlainOrder_enter,YZ,#v[pv 3]]]]]]]]
 exists 7
 have bG:=mu_S0 hB.q n;exists 8,N,hN;have bH:∀(H1:Hp) (S:Sy.Ss (SyP qs)) (st:oj (Gc×Gs)) (uk rk fk:oj (Key×V)),OI a.qK a.qp H H1 o n S st uk rk fk->N [u_ (.ref o.x),u_ (.str n),UU,UU] H1:=by
  intro H1 S st uk rk fk h1;refine hN _ _ ?_
  let J_:Nat->L2.St->Hp->Prop:=λmm σ H2=>∃(S:Sy.Ss (SyP qs)) (st:oj (Gc×Gs)) (uk rk fk:oj (Key×V)) (u3 u4:om V),σ= [u_ (.ref o.x),u_ (.str n),u3,u4]/\mm=Sy.mu S/\OI a.qK a.qp H H2 o n S st uk rk fk
  exists J_,⟨_,S,st,uk,rk,fk,UU,UU,1,1,h1⟩;clear h1 bg bE bF bD;rintro mm σ H2 ⟨S,st,uk,rk,fk,u3,u4,rfl,rfl,Z⟩;have bh:=hB.at Z.kp;exists 0,o.x,_,o.dx,_,0,bh.e,T.qx,T.QC,of_st o,_,.inl [_:SqL.of Z.ls:1];obtain⟨(stk:oj (Str×Gp)),(don:oj (Str×Gp))⟩:=S;have ax:xp a.qK a.qp H2 o.x st stk:=Z.stk;cases st with
  |nil=>
   cases stk with
   |cons p l=>exact ax.elim
   |nil=>
    refine iteN rfl ?_;erw[Z.nx,j,hj];exact k H2 rk uk fk don j Z.du Z.uo Z.df Z.fd (by have:=Z.fl;omega) Z.gi Z.kp hj.symm Z.dr Z.rks Z.rv (λp hp=>[(Z.gi p (.inr hp)).1:Z.fin p hp]) (by have:=Z.rl;have e:(#[Y,[],don].don).length=don.length:=rfl;omega)
  |cons q t=>
   erw[q,gc,gs];cases stk with
   |nil=>exact ax.elim
   |cons p l=>
    erw[p,O,p];erw[ax,hG,bo,bI,hT];have hG:GoAt a.qK a.qp H2 gc gs:=hG;have bo:GRel gc gs p:=bo;have am:H2 o.ls=u_ (.lst ((t.reverse.map λq=>V.ref q.1.x)++ [V.ref gc.x])):=by
     have:=Z.ls;rwa [UN,ur] at this
    refine iteB (by rw [UN,ur];show(!((tu _ t.reverse)++ [V.ref gc.x]).isEmpty)=v_;simp) ?_
    exists λσ' H'=>∃m',m'<Sy.mu #[Y,(O,p)::l,don]/\J_ m' σ' H',λ_ _ h=>h;exists 8,B1,b1;refine⟨0,o.x,_,o.dx,_,0,bh.e,T.qx,T.QC,of_st o,0,o.ls,_,_,0,1,SqL.of am,kK,b1 _ _ ?_⟩;exists 8,B2,b2;have ao:∀b∈plc gc gs,H b=none:=λb U=>Z.new b (vg _ U);have ac:∀b∈plcs t,H b=none:=λb U=>Z.new b (uI _ U);have bJ:∃j,#[Y,(O,p)::l,don]=Sy.nx #[Y,(O,p)::l,don] j:=[(0):1];refine⟨0,o.x,o.dx,0,bh.e,X0 o _ (),0,H,o,qs,gc,gs,O,p,l,don,uk,fk,(20001),1,hB,Z.kp,Z.du,Z.uo,Z.fin,(),bI,ao,⟨bJ,Z.fl,λ_ _ h _=>h,Tk.refl _,Z.df,Z.fd,hG,bo,λb U=> .inl U,Z.gi⟩,λv H3 ak p3 ad hR hv=> ?_⟩
    have aW:Sy.mu #[Y,(O,p3)::l,don]<=Sy.mu #[Y,(O,p)::l,don]:=by
     erw[hR.st,j,hj];have hj:#[Y,(O,p3)::l,don]=Sy.nx #[Y,(O,p)::l,don] j:=hj;rw [hj];exact nx_le _ _
    have bK:∃j,#[Y,(O,p3)::l,don]=Sy.nx (Sy.S0 (SyP qs) n) j:=by
     erw[hR.st,j,hj];erw[Z.nx,i,hi];have hj:#[Y,(O,p3)::l,don]=Sy.nx #[Y,(O,p)::l,don] j:=hj;exact⟨i+j,by rwa [nx_add,<-hi]⟩
    have ap:Kp (LO o) H H3:=kp_more hB Z.kp hR.kp hR.tk ao;have ay:=hB.at ap;have aq:∀b∈plc gc ak,H b=none:=λb U=>(hR.pl b U).elim (ao b) (·.2);have out:∀b,b∈LO o->b≠o.df->b∉o.df::plc gc gs:=λb U hn z=>by
     rcases A5.mp z with z|z
     ·exact hn z
     ·exact hB.nlo (ao b z) U
    have bZ:o.ls≠o.du/\o.ls≠o.dr/\o.ls≠o.df/\o.du≠o.dr/\o.du≠o.df/\o.dr≠o.df:=by
     have h:=hB.nd;simp only [LO,U1,uB,uC,uL,US,vX,and_true,UM] at h;exact⟨h.1.1,h.1.2.1,h.1.2.2,h.2.1.1,h.2.1.2,h.2.2⟩
    erw[bZ,d1,d2,d3,d4,d5,d6];have af:=hR.kp _ _ am (out _ (by simp [LO]) d3)
    have aA:=hR.kp _ _ Z.du (out _ (by simp [LO]) d5)
    have aB:=hR.kp _ _ Z.dr (out _ (by simp [LO]) d6)
    have bp:xp a.qK a.qp H3 o.x t l:=hT.frame (λb U ob h=>hR.kp b ob h (λz=>by
     rcases A5.mp z with z|z
     ·exact(hB.new (ac b U)).2.2.2.2 z
     ·exact Z.sep.1 b z U)) hR.tk
    have bq:∀b∈plc gc ak,b∉plcs t:=λb U z=>by
     rcases hR.pl b U with U|⟨U,_⟩
     ·exact Z.sep.1 b U z
     ·erw[hT.there b z,ob,e];rw [e] at U;cases U
    have b3:GI p3:=(hR.gi (O,p3) (.inl uf)).1;have aX:p3.n=O:=(hR.gi (O,p3) (.inl uf)).2;have bL:=Z.ul;have bM:=hR.len;have b4:=Z.rl;have cn:don.length+Sy.mu #[Y,(O,p)::l,don]<=20001:=b4;have b5:ad.length+Sy.mu #[Y,(O,p3)::l,don]<=20001:=bM;have aC:=Sy.nxt_mu (yC qs) (S:=#[Y,(O,p3)::l,don]) (by intro z;cases z)
    have cp:rk.length=don.length:=by
     have:=congrArg VP Z.rks;rwa [ua,ua] at this
    have aD:H3 o.df=u_ (.dK ad):=hR.df;have aO:GoAt a.qK a.qp H3 gc ak:=hR.go;have ag:GRel gc ak p3:=hR.rel;have aY:FdOk H3 #[Y,(O,p3)::l,don] ad:=hR.fd;have aZ:SGI #[Y,(O,p3)::l,don]:=hR.gi;erw[bK,i3,aP];refine b2 _ _ ?_;exists 0,1,0;rcases hv with⟨rfl,au⟩|⟨m,rfl,au,hw,hy⟩
    ·
     refine iteB (ub rfl) ?_;exists 8,C1,c1;obtain⟨d,hd⟩:∃d,p3.en=u_ d:=by
      cases h:p3.en with
      |none=>rw [h] at au;cases au
      |some d=>exact[d:1]
     have ae:=nxt_pop (qs:=qs) (n:=O) (r:=l) (don:=don) hd;exists 0,o.x,_,o.dx,_,0,ay.e,T.qx,T.QC,of_st o,.inl [1:_:SqL.of af];exists o.ls,_,V.ref gc.x,1,1,af,by simp
     rw [List.dropLast_concat];have aa:Kp [o.ls,o.du] H3 (upd H3 o.ls (.lst (t.reverse.map λq=>V.ref q.1.x))):=⟨λb ob h n=>by rw [qk (λz=>n (by rw [z];exact uf))];exact h,Kept.tk (p:=o.ls) (λb ob h n=>by rwa [qk n]) af qi⟩
     obtain⟨H4,aE⟩:∃H4,H4=upd H3 o.ls (.lst (t.reverse.map λq=>V.ref q.1.x)):=⟨0⟩;rw [<-aE] at aa⊢;refine c1 _ _ ?_;exists 8,C2,c2;have e4:H4 o.x=u_ (.ins a.qq o.dx (ofs o)):=by rw [aE,qk (λz=>by have:=ay.e;rw [z,af] at this;cases this)];exact ay.e
     have aF:H4 o.ls=u_ (.lst (t.reverse.map λq=>V.ref q.1.x)):=by rw [aE];exact qi
     have al:H4 o.du=u_ (.dK uk):=by rwa [aE,qk d1.symm]
     have bN:∀b,H b=UU->b≠o.ls:=λb U=>(hB.new U).2.1;have b6:GoAt a.qK a.qp H4 gc ak:=aO.frame (λb U ob h=>by rwa [aE,qk (bN b (aq b U))]) aa.tk
     erw[id b6,b7,b8,cq,cr,cs,cu,b9,f4,_];have aG:(valV uk (UZ gc.n)).isSome=true:=by
      rw [ag.n,aX];exact(Z.uo O).trans (ub uf)
     obtain⟨uv,ca⟩:∃uv,valV uk (UZ gc.n)=u_ uv:=by
      cases h:valV uk (UZ gc.n) with
      |none=>rw [h] at aG;cases aG
      |some uv=>exact[uv:1]
     exists 0,o.x,_,o.dx,_,0,e4,T.qx,T.Qw,of_uw o,o.du,1,.inl [_:.inl al],0,gc.x,_,b7,b8,0,b9,T.qR,T.Yd,f4.zH,uk,UZ gc.n,uv,al,1,ca;have ah:Kp [o.ls,o.du] H3 (upd H4 o.du (.dK (Jc uk (UZ gc.n)))):=aa.trans (Kp.updD al (uc _ uf));obtain⟨H5,bt⟩:∃H5,H5=upd H4 o.du (.dK (Jc uk (UZ gc.n))):=⟨0⟩;rw [<-bt] at ah⊢;refine c2 _ _ ?_;have bO:H5 o.du=u_ (.dK (Jc uk (UZ gc.n))):=by rw [bt];exact qi
     have bP:H5 o.ls=u_ (.lst (t.reverse.map λq=>V.ref q.1.x)):=by rwa [bt,qk d1]
     have aH:∀b,H b=UU->b∉ [o.ls,o.du]:=λb U z=>by
      simp only [uB,uC,uL] at z;rcases z with z|z
      ·exact(hB.new U).2.1 z
      ·exact(hB.new U).2.2.1 z
     have cb:GoAt a.qK a.qp H5 gc ak:=aO.frame (λb U ob h=>ah.kept b ob h (aH b (aq b U))) ah.tk;have bQ:H5 o.dr=u_ (.dK rk):=ah.kept _ _ aB (by simp only [uB,uC,uL,US];exact[d2.symm:d4.symm])
     have bR:H5 o.df=u_ (.dK ad):=ah.kept _ _ aD (by simp only [uB,uC,uL,US];exact[d3.symm:d5.symm])
     have aQ:∀b,b∉LO o->b∉ [o.ls,o.du]:=λb U z=>U (by simp only [LO,uB,uC,uL] at z⊢;rcases z with z|z;exact .inl z;exact .inr (.inl z))
     have bu:Kp (LO o) H H5:=[λb ob h n=>ah.kept b ob (ap.kept b ob h n) (aQ b n):ap.tk.trans ah.tk];have bS:=hB.at bu;refine⟨0,o.x,o.dx,0,bS.e,X0 o _ (),0,o,qs,gc,ak,p3,rk,ad,1,bS,cb,ag,b3,au,bQ,(),bR,(),d6,λz=>(hB.new (aq _ z)).2.2.2.1 rfl,λz=>(hB.new (aq _ z)).2.2.2.2 rfl,λv1 v2 H6 aw aI i6 ba j6=> ?_⟩
     have bT:∀b,b∉LO o->b∉ [o.dr,o.df]:=λb U z=>U (by simp only [LO,uB,uC,uL] at z⊢;rcases z with z|z;exact .inr (.inr (.inl z));exact .inr (.inr (.inr z)))
     have cc:∀b,H b=UU->b∉ [o.dr,o.df]:=λb U=>bT b (hB.nlo U);have cd:Kp (LO o) H H6:=[λb ob h n=>aw.kept b ob (bu.kept b ob h n) (bT b n):bu.tk.trans aw.tk];have aJ:Tk H3 H6:=ah.tk.trans aw.tk;have bv:gc.n=O:=ag.n.trans aX;have aR:(#[Y,(O,p3)::l,don].stk.map (·.1)++#[Y,(O,p3)::l,don].don.map (·.1)).Nodup:=by
      rw [aP];exact S0_nd n i3
     have bb:(O::(l.map (·.1)++don.map (·.1))).Nodup:=aR;have aK:O∉don.map (·.1):=λz=>(List.nodup_cons.mp bb).1 (uI _ z);have bw:O∉l.map (·.1):=λz=>(List.nodup_cons.mp bb).1 (vg _ z);have ce:valV rk (UZ O)=none:=by
      cases h:valV rk (UZ O) with
      |none=>rfl
      |some v=>
       have h1:=valV_in h;rw [Z.rks] at h1;erw[A8.mp h1,q,hq,e];injection e with e
       exact absurd (A8.mpr [q:hq:e]) aK
     rw [bv] at aI ba;rw [putK_new v1 ce] at aI;have bU:uk.length+Sy.mu #[Y,(O,p)::l,don]<=20001:=bL;have cw:=dropK_le uk (UZ gc.n:Key);have cf:=yX ad (UZ O:Key) v2;have a1:UkOk #[Y,l,don++ [(O,p3)]] (Jc uk (UZ gc.n)):=by
      intro m';rw [ZS];by_cases c:m'=O
      ·rw [A3 (by rw [c,bv]),c]
       exact(ud bw).symm
      ·rw [A2 (by rw [bv];exact λz=>c (Ug z))]
       refine(Z.uo m').trans ?_;rw [uW];exact⟨λz=>by rcases A5.mp z with z|z;exact absurd z c;exact z,λz=>uc _ z⟩
     have a2:(rk++ [((UZ O:Key),v1)]).map (·.1)=(don++ [(O,p3)]).map λq:Str×Gp=>(UZ q.1:Key):=by
      rw [ur,ur];have:=Z.rks;rw [this]
      rfl
     have a3:L2.IsL H6 ((don++ [(O,p3)]).map λq:Str×Gp=>JJ q.2) ((rk++ [((UZ O:Key),v1)]).map (·.2)):=by
      rw [ur,ur];exact((Z.rv.mono (hR.tk.trans aJ))).append (L2.IsL.one i6)
     have a4:(don++ [(O,p3)]).length=don.length+1:=by rw [uu];rfl
     have a5:∀(m':Str) (g':Gp),g0D m' (qD qs m')=u_ g'->(∀g2:Gp,Sy.Yj (Y:=SyP qs) (don++ [(O,p3)]) m'=u_ g2->∃v,valV (putK ad (UZ O) v2) (UZ m')=u_ v/\Is H6 (Qt (g2.en.getD .non)) v)/\(Sy.Yj (Y:=SyP qs) (don++ [(O,p3)]) m'=UU->valV (putK ad (UZ O) v2) (UZ m')=UU):=by
      intro m' g' cg;rw [Xo];by_cases c:m'=O
      ·have aL:Sy.Yj (Y:=SyP qs) (don++ [(O,p3)]) m'=(u_ p3:om Gp):=by
        have e1:(don.find? λq=>decide (q.1=m'))=none:=List.find?_eq_none.mpr λq hq e=>aK (by rw [<-c,<-uj e];exact Fo hq)
        have e2:((don++ [(O,p3)]).find? λq:Str×Gp=>decide (q.1=m'))=u_ (O,p3):=by rw [TB,e1,c];simp
        show((don++ [(O,p3)]).find? λq:Str×Gp=>decide (q.1=m')).map (·.2)=u_ p3;rw [e2]
        rfl
       refine[λg2 e2=> ?_:λz=> ?_]
       ·have e3:=aL.symm.trans e2;cases e3;rw [A3 (by rw [c])]
        exact[v2:1:j6]
       ·have e3:=aL.symm.trans z;cases e3
      ·have aL:Sy.Yj (Y:=SyP qs) (don++ [(O,p3)]) m'=Sy.Yj (Y:=SyP qs) don m':=by
        have e2:((don++ [(O,p3)]).find? λq:Str×Gp=>decide (q.1=m'))=don.find? λq:Str×Gp=>decide (q.1=m'):=by
         rw [TB];have:([(O,p3)].find? λq:Str×Gp=>decide (q.1=m'))=none:=by simp;exact λz=>c z.symm
         rw [this,Option.or_none]
        show((don++ [(O,p3)]).find? λq:Str×Gp=>decide (q.1=m')).map (·.2)=(don.find? λq:Str×Gp=>decide (q.1=m')).map (·.2);rw [e2]
       rw [A2 (λz=>c (Ug z))];have aM:(∀g2:Gp,Sy.Yj (Y:=SyP qs) don m'=u_ g2->∃v,valV ad (UZ m')=u_ v/\Is H6 (Qt (g2.en.getD .non)) v)/\(Sy.Yj (Y:=SyP qs) don m'=UU->valV ad (UZ m')=UU):=(aY.mono aJ) m' g' cg;exact[λg2 e2=>aM.1 g2 (aL.symm.trans e2):λz=>aM.2 (aL.symm.trans z)]
     have a6:xp a.qK a.qp H6 o.x t l:=bp.frame (λb U ob h=>aw.kept b ob (ah.kept b ob h (aH b (ac b U))) (cc b (ac b U))) aJ;have a7:∀q∈don++ [(O,p3)],q.2.en.isSome=true:=by
      intro q hq;rcases A7.mp hq with hq|hq
      ·exact Z.fin q hq
      ·cases A6.mp hq;exact au
     have eN:Sy.nx (Sy.S0 (SyP qs) n) (i3+1)=Sy.nxt #[Y,(O,p3)::l,don]:=by show Sy.nxt (Sy.nx _ i3)=_;rw [<-aP]
     have a8:=S0_nd (qs:=qs) n (i3+1);rw [eN] at a8;have a9:=nxt_gi hB.q aZ;have bx:OI a.qK a.qp H H6 o n (Sy.nxt #[Y,(O,p3)::l,don]) t (Jc uk (UZ gc.n)) (rk++ [(UZ O,v1)]) (putK ad (UZ O) v2):=by
      refine⟨cd,[i3+1:eN.symm],aw.kept _ _ bP (by simp only [uB,uC,uL,US];exact[d2:d3]),aw.kept _ _ bO (by simp only [uB,uC,uL,US];exact[d4:d5]),?_,(),aI,?_,?_,?_,ba,?_,(),?_,ac,Z.sep.2,a9,?_,a8⟩
      ·rwa [ae]
      ·rwa [ae]
      ·rwa [ae]
      ·have e:(Sy.nxt #[Y,(O,p3)::l,don]).don.length=don.length+1:=by rwa [ae]
       omega
      ·rwa [ae]
      ·rwa [ae]
      ·rwa [ae]
     exact⟨_,V7 aC aW,_,t,_,_,_,_,0,1,bx⟩
    ·
     refine iteN (ud (λz=>by cases z)) ?_
     erw[nxt_push (qs:=qs) au hw hy,p',ci,ae];rw [ae] at aC;erw[Sy.jJ hy,y1,_,y3];have bV:=lfts_len (Y:=SyP qs) ((O,p3)::l);have aS:((O,p3)::l).length<=Sy.mu #[Y,(O,p3)::l,don]:=uO bV (UQ _ _);have cx:t.length=l.length:=hT.len;have bU:uk.length+Sy.mu #[Y,(O,p)::l,don]<=20001:=bL;refine⟨0,o.x,o.dx,0,ay.e,X0 o _ (),0,o,m,qs,_,uk,p',1,ay,hB.q,af,?_,aA,(),ci,λgn sn H4 aa aF al bA bB bC aT=> ?_⟩
     ·rw [uu,ua,List.length_reverse,uV];rw [ui] at aS;omega
     have aQ:∀b,b∉LO o->b∉ [o.ls,o.du]:=λb U z=>U (by simp only [LO,uB,uC,uL] at z⊢;rcases z with z|z;exact .inl z;exact .inr (.inl z))
     have cj:Kp (LO o) H H4:=[λb ob h n=>aa.kept b ob (ap.kept b ob h n) (aQ b n):ap.tk.trans aa.tk];have aH:∀b,H b=UU->b∉ [o.ls,o.du]:=λb U=>aQ b (hB.nlo U);have aN:∀b∈plc gn sn,H b=none:=λb U=>by
      have h3:=aT b U;cases h:H b with
      |none=>rfl
      |some ob=>
       by_cases c:b∈LO o
       ·simp only [LO,uB,uC,uL] at c;rcases c with rfl|rfl|rfl|rfl
        ·rw [af] at h3;cases h3
        ·rw [aA] at h3;cases h3
        ·rw [aB] at h3;cases h3
        ·rw [aD] at h3;cases h3
       ·rw [ap.kept b ob h c] at h3;cases h3
     exists _,V7 aC aW,[(m,p')::(O,p3)::l:don],(gn,sn)::(gc,ak)::t,putK uk (UZ m) (.bl v_),rk,ad,_,0,1;have cf:=yX uk (UZ m:Key) (.bl v_);refine⟨cj,⟨i3+1,by show _=Sy.nxt (Sy.nx _ i3);rw [<-aP,ae]⟩,?_,al,?_,(),aa.kept _ _ aB (by simp only [uB,uC,uL,US];exact[d2.symm:d4.symm]),Z.rks,Z.rv.mono (hR.tk.trans aa.tk),?_,aa.kept _ _ aD (by simp only [uB,uC,uL,US];exact[d3.symm:d5.symm]),?_,(),?_,?_,?_,?_,Z.fin,?_⟩
     ·rw [aF,UN,UN,ur,ur]
      rfl
     ·intro m';rw [Xo];by_cases c:m'=m
      ·rw [A3 (by rw [c])]
       exact(ub (by rw [c];exact uf)).symm
      ·rw [A2 (λz=>c (Ug z))];refine(Z.uo m').trans ?_;rw [uW];exact⟨λz=>uc _ z,λz=>by rcases A5.mp z with z|z;exact absurd z c;exact z⟩
     ·show don.length+_<=_;omega
     ·exact aY.mono aa.tk
     ·exact⟨bA,bB,bC,aO.frame (λb U ob h=>aa.kept b ob h (aH b (aq b U))) aa.tk,ag,bI,bp.frame (λb U ob h=>aa.kept b ob h (aH b (ac b U))) aa.tk⟩
     ·intro b U;rcases A7.mp U with U|U
      ·exact aN b U
      ·rcases A7.mp U with U|U
       ·exact aq b U
       ·exact ac b U
     ·refine[λb U z=> ?_:bq:Z.sep.2];have h3:=aT b U;rcases A7.mp z with z|z
      ·erw[aO.there b z,ob,e];rw [e] at h3;cases h3
      ·erw[bp.there b z,ob,e];rw [e] at h3;cases h3
     ·have:=nxt_gi hB.q aZ;rwa [ae] at this
     ·have:=S0_nd (qs:=qs) n (i3+1);have e:Sy.nx (Sy.S0 (SyP qs) n) (i3+1)=⟨(m,p')::(O,p3)::l,don⟩:=by show Sy.nxt (Sy.nx _ i3)=_;rw [<-aP,ae]
      rwa [e] at this
 have u0:UkOk #[Y,[],[]] []:=λm=>by rw [kO];rfl
 have f0:FdOk H #[Y,[],[]] []:=λm g hg=>⟨(λg' e=>by cases e),λ_=>kO⟩
 have g0:SGI #[Y,[],[]]:=λp hp=>by rcases hp with hp|hp<;>cases hp
 refine⟨0,o.x,o.dx,0,hO.e,X0 o _ (),0,o,n,qs,#[Y,[],[]],[],[],1,hO,hB.q,g0,bg,u0,bF,f0,(),(λ_ z=>by cases z),λv H1 fk1 k1 f1 d1 l1 bW y1=> ?_⟩
 have aR:=hB.nd;simp only [LO,U1,uB,uC,uL,US,vX,and_true,UM] at aR;erw[aR,[n1,n2,n3],[n4,n5],n6];have aU:∀b,b≠o.df->b∉ [o.df]:=λb U z=>U (A6.mp z);have aV:Kp (LO o) H H1:=⟨λb ob h z=>k1.kept b ob h (λy=>z (by rw [A6.mp y];simp [LO])),k1.tk⟩
 have bX:=hB.at aV;have bc:=k1.kept _ _ bD (aU _ n3);have bd:=k1.kept _ _ bg (aU _ n5);have be:=k1.kept _ _ bE (aU _ n6);exists 1,0;unfold YetIs at y1;cases hg:(SyP qs).g0 n with
 |none=>
  have ey:Sy.yet #[Y,[],[]] n=u_ (u_ ((SyP qs).once n)):=by
   unfold Sy.yet;rw [A2 (by intro z;cases z),hg]
  rw [ey] at y1;erw[y1,d,i1,i2,_];have ck:d≠ .non:=by
   cases h:(SyP qs).once n with
   |none=>rw [h] at i2;intro z;rw [z] at i2;cases i2
   |some x=>rw [h] at i2;intro z;rw [z] at i2;cases i2
  refine iteN (ud (zk i1 ck)) ?_;have e0:Sy.S0 (SyP qs) n=⟨[],[]⟩:=by unfold Sy.S0;rw [hg]
  rw [e0] at bG;have l1:fk1.length<=0+1:=l1;exact bH H1 [[]:[]] [] [] [] fk1 ⟨aV,[(0):e0.symm],bc,bd,u0,(by show 0+_<=_;omega),be,1,1,(by show 0+_<=_;omega),f1,d1,(),trivial,(λb U=>by cases U),trivial,g0,(λq hq=>by cases hq),vX⟩
 |some p=>
  have ey:Sy.yet #[Y,[],[]] n=none:=by
   unfold Sy.yet;rw [A2 (by intro z;cases z),hg]
   rfl
  rw [ey] at y1;cases(show v= .non from y1)
  refine iteB (ub rfl) ?_;have e0:Sy.S0 (SyP qs) n=⟨[(n,p)],[]⟩:=by unfold Sy.S0;rw [hg]
  rw [e0] at bG;have bW:fk1.length=0:=bW ey;refine⟨0,o.x,o.dx,0,bX.e,X0 o _ (),0,o,n,qs,[],[],p,1,bX,hB.q,bc,(),bd,(),hg,λgn sn H2 k2 am bY bA bB bC aT=> ?_⟩
  have cm:Kp (LO o) H H2:=⟨λb ob h z=>k2.kept b ob (aV.kept b ob h z) (λy=>z (by simp only [LO,uB,uC,uL] at y⊢;rcases y with y|y;exact .inl y;exact .inr (.inl y))),aV.tk.trans k2.tk⟩
  have aN:∀b∈plc gn sn,H b=none:=λb U=>by
   have h3:=aT b U;cases h:H b with
   |none=>rfl
   |some ob=>
    by_cases c:b=o.df
    ·rw [c,f1] at h3;cases h3
    ·rw [k1.kept b ob h (aU b c)] at h3;cases h3
  have bf:∀b,b≠o.ls->b≠o.du->b∉ [o.ls,o.du]:=λb h1 h2 z=>by
   simp only [uB,uC,uL] at z;rcases z with z|z
   ·exact h1 z
   ·exact h2 z
  refine bH H2 [[(n,p)]:[]] [(gn,sn)] (putK [] (UZ n) (.bl v_)) [] fk1 ⟨cm,[(0):e0.symm],am,bY,?_,?_,k2.kept _ _ be (bf _ (Up n2) (Up n4)),1,1,(by show 0+_<=_;omega),k2.kept _ _ f1 (bf _ (Up n3) (Up n5)),d1.mono k2.tk,(),⟨bA,bB,bC,trivial⟩,?_,⟨λb U z=>(by cases z),trivial⟩,?_,(λq hq=>by cases hq),?_⟩
  ·intro m';rw [Xo];by_cases c:m'=n
   ·rw [A3 (by rw [c])]
    exact(ub (by rw [c];exact uf)).symm
   ·rw [A2 (λz=>c (Ug z)),kO];exact(ud (λz=>c (A6.mp z))).symm
  ·have:=yX [] (UZ n:Key) (.bl v_);rw [h_] at this;omega
  ·intro b U;rcases A7.mp U with U|U
   ·exact aN b U
   ·cases U
  ·intro q hq;rcases hq with hq|hq
   ·cases A6.mp hq;exact gi_g0 hB.q hg
   ·cases hq
  ·exact List.nodup_cons.mpr ⟨(λz=>by cases z),vX⟩
end
namespace Sy
variable {Y:Sy}
variable {n0:Str}
theorem yet_F (h:Y.Ok){n:Str}{g:Y.G}{r don:oj (Str×Y.G)}(hs:SOk n0 ([(n,g)::r:don]:Ss Y))(hf:Y.fin g=UV)(hw:Y.want g=u_ m){o:om (om D)}(O:yet ([(n,g)::r:don]:Ss Y) m=u_ o):F Y m=o:=by
 erw[hs,[[s,k,U,hk],c2,c3],nd,Z,bot];unfold yet at O;by_cases c:m∈((n,g)::r).map (·.1)
 ·rw [A3 c] at O;cases O;have w:Wt Y n m:=⟨s,k,U,by rwa [<-hk],by rwa [<-hk]⟩
  rcases A5.mp c with rfl|hm
  ·exact Xy h (.one w)
  ·exact Xy h (.more (chn_wts (g:=g) [⟨s,k,U,hk⟩:c2:c3] hm) w)
 ·rw [A2 c] at O;cases hg:Y.g0 m with
  |none=>
   rw [hg] at O;cases O;exact F_once h hg
  |some gm=>
   rw [hg] at O;simp only at O;cases hd:Yj don m with
   |none=>rw [hd] at O;cases O
   |some gd=>
    rw [hd] at O;cases O;erw[Z _ (Zf hd),s',e1,e2];rw [hg] at e1;cases e1;have e3:gd=it Y (F Y) Y.M gm:=e2;rw [F_run h hg,e3]
noncomputable def Hist (Y:Sy)(ns:oj Str)(n:Str)(g:Y.G):Prop:=∃s k,Y.g0 n=u_ s/\g=it Y (F Y) k s/\∀i,i<k->Y.fin (it Y (F Y) i s)=UV->∀m,Y.want (it Y (F Y) i s)=u_ m->Y.g0 m=UU∨m∈ns
theorem Hist.more {ns O:oj Str}{n:Str}{g:Y.G}(h:Hist Y ns n g)(hn:∀m∈ns,m∈O):Hist Y O n g:=by
 erw[h,s,k,h1,h2,h3];exact⟨s,k,h1,h2,λi hi U m Z=>(h3 i hi U m Z).imp id (hn m)⟩
noncomputable def jI (S:Ss Y):oj Str:=S.stk.map (·.1)++S.don.map (·.1)
noncomputable def Clo (S:Ss Y):Prop:=∀p,p∈S.stk∨p∈S.don->Hist Y (jI S) p.1 p.2
variable {S:Ss Y}
theorem nxt_clo (h:Y.Ok)(hs:SOk n0 S)(c:Clo S):Clo (nxt S):=by
 erw[S,stk,don];cases stk with
 |nil=>exact c
 |cons p r=>
  erw[p,n,g];have c0:=c (n,g) (.inl uf);have on:∀g',Y.fin g=UV->step Y (F Y) g=g'->(∀m,Y.want g=u_ m->Y.g0 m=UU∨m∈jI (⟨(n,g)::r,don⟩:Ss Y))->Clo (⟨(n,g')::r,don⟩:Ss Y):=by
   intro g' hf e hm p O;have U:∀m∈jI (⟨(n,g)::r,don⟩:Ss Y),m∈jI (⟨(n,g')::r,don⟩:Ss Y):=λm hm=>hm;have top:Hist Y (jI (⟨(n,g')::r,don⟩:Ss Y)) n g':=by
    erw[c0,s,k,h1,h2,h3];have h2:g=it Y (F Y) k s:=h2;refine⟨s,k+1,h1,by rw [kX,<-h2,e],λi hi aa m hw=> ?_⟩
    by_cases ci:i<k
    ·exact(h3 i ci aa m hw).imp id (U m)
    ·have:i=k:=by omega
     subst this;rw [<-h2] at hw;exact(hm m hw).imp id (U m)
   rcases O with O|O
   ·rcases A5.mp O with rfl|O
    ·exact top
    ·exact(c p (.inl (uc _ O))).more U
   ·exact(c p (.inr O)).more U
  unfold nxt;simp only;cases hf:Y.fin g with
  |true=>
   rw [A3 rfl];have U:∀m∈jI (⟨(n,g)::r,don⟩:Ss Y),m∈jI (⟨r,don++ [(n,g)]⟩:Ss Y):=by
    intro m hm;unfold jI at hm⊢;simp only [uq,ur,vR,vQ,uB,A7,uC,uL] at hm⊢;rcases hm with hm|hm|hm
    ·exact .inr (.inr hm)
    ·exact .inl hm
    ·exact .inr (.inl hm)
   intro p O;rcases O with O|O
   ·exact(c p (.inl (uc _ O))).more U
   ·rcases A7.mp O with O|O
    ·exact(c p (.inr O)).more U
    ·cases A6.mp O;exact c0.more U
  |false=>
   rw [A2 u9];have Z:step Y (F Y) g=match Y.want g with
     |none=>Y.own g
     |some m=>match F Y m with
      |some a=>Y.tk g a
      |none=>Y.stuck g m:=by
    unfold step;rw [hf,A2 u9]
    all_goals rfl
   cases hw:Y.want g with
   |none=>exact on _ hf (by rw [Z,hw]) λm z=>by rw [hw] at z;cases z
   |some m=>
    rw [hw] at Z;simp only at Z⊢;cases hy:yet ([(n,g)::r:don]:Ss Y) m with
    |some o=>
     have hF:=yet_F h hs hf hw hy;have hm:∀m',Y.want g=u_ m'->Y.g0 m'=UU∨m'∈jI (⟨(n,g)::r,don⟩:Ss Y):=by
      intro m' z;rw [hw] at z;cases z;unfold yet at hy;by_cases cm:m∈((n,g)::r).map (·.1)
      ·exact .inr (vg _ cm)
      ·rw [A2 cm] at hy;cases hg:Y.g0 m with
       |none=>exact .inl rfl
       |some gm=>
        rw [hg] at hy;simp only at hy;cases hd:Yj don m with
        |none=>rw [hd] at hy;cases hy
        |some gd=>exact .inr (uI _ (A8.mpr [_:Zf hd:1]))
     cases o with
     |some a=>exact on _ hf (by rw [Z,hF]) hm
     |none=>exact on _ hf (by rw [Z,hF]) hm
    |none=>
     simp only;erw[jJ hy,h1,[g',hg],h2];rw [hg];have U:∀m'∈jI (⟨(n,g)::r,don⟩:Ss Y),m'∈jI (⟨(m,g')::(n,g)::r,don⟩:Ss Y):=λm' hm=>uc _ hm;intro p O;rcases O with O|O
     ·rcases A5.mp O with rfl|O
      ·exact⟨g',(0),hg,1,λi hi=>absurd hi (UI i)⟩
      ·exact(c p (.inl O)).more U
     ·exact(c p (.inr O)).more U
theorem nx_clo (h:Y.Ok){n0:Str}{S:Ss Y}(O:SOk n0 S)(c:Clo S):∀k,Clo (nx S k)
 |0=>c
 |k+1=>nxt_clo h (nx_ok h O k) (nx_clo h O c k)
theorem S0_clo {n:Str}{g:Y.G}(U:Y.g0 n=u_ g):Clo (S0 Y n):=by
 unfold S0;rw [U];intro p O;rcases O with O|O
 ·cases A6.mp O;exact⟨g,(0),U,1,λi hi=>absurd hi (UI i)⟩
 ·cases O
theorem end_clo (h:Y.Ok){g0:Y.G}(U:Y.g0 n0=u_ g0){k:Nat}{don:oj (Str×Y.G)}(hk:nx (S0 Y n0) k=[[]:don]){p:Str×Y.G}(hp:p∈don){s:Y.G}(Z:Y.g0 p.1=u_ s){i:Nat}(hf:Y.fin (it Y (F Y) i s)=UV)(hw:Y.want (it Y (F Y) i s)=u_ m):Y.g0 m=UU∨m∈don.map (·.1):=by
 have c:=nx_clo h (S0_ok U) (S0_clo U) k;have ok:=nx_ok h (S0_ok U) k;rw [hk] at c ok;erw[c p (.inr hp),s',k',h1,h2,h3];rw [Z] at h1;cases h1;erw[ok.don p hp,s2,e1,e2];rw [Z] at e1;cases e1;have O:Y.fin (it Y (F Y) k' s)=true:=by
  rw [<-h2,e2];exact it_end h _ _ (h.l0 _ _ Z)
 have aa:i<k':=by
  rcases Uv i k' with z|z
  ·exact z
  ·erw[Uk z,d,rfl];rw [Xj,JD O,O] at hf;cases hf
 rcases h3 i aa hf m hw with z|z
 ·exact .inl z
 ·exact .inr (by simpa [jI] using z)
end Sy
section
variable {qs qs':oj (Str×D)}
noncomputable abbrev FP (qs:oj (Str×D)):Sy.Orc:=Sy.F (SyP qs)
noncomputable abbrev itP (qs:oj (Str×D)) (k:Nat) (g:Gp):Gp:=Sy.it (SyP qs) (FP qs) k g
theorem ZI (g:Gp):Sy.step (SyP qs) (FP qs) g=if g.en.isSome=v_ then g else match yD g with
  |none=>ownP qs g
  |some m=>match FP qs m with
   |some a=>y9 g (a.getD .non)
   |none=>stkP g m:=rfl
noncomputable def QS (p:Gp):oj D:=p.ra++runPG' p.run
where runPG':om (oj Rw×Rn)->oj D
 |none=> []
 |some (_,r)=>r.gs
noncomputable def GA (g:Gp):Prop:=g.run=UU->g.en=UU->g.ra= []
theorem runS_gs {rs:oj Rw}{own:Str}{gs:oj D}:∀(f:Nat) (B:Str->D) (p:Int) (n:Nat),(runS rs own gs f B p n).gs=gs
 |0,B,p,n=>rfl
 |f+1,B,p,n=>by
  unfold runS;by_cases c:p>rs.length
  ·rw [A3 c]
  ·rw [A2 c];cases U:rowO own (j7 rs p) B p with
   |go O p'=>exact runS_gs f O p' (n+1)
   |stop e=>rfl
theorem ansS_gs {r:Rn}{a:D}:(ansS rs own r a).gs=r.gs++ [.tup [X7 r.th,a]]:=by
 unfold ansS;split
 ·rfl
 ·exact runS_gs _ _ _ _
theorem asks_beg (h:g.run=UU)(d:D):QS (begP g d)=g.ra/\GA (begP g d):=by
 unfold begP;split
 ·refine⟨?_,λ_ z=>by cases z⟩
  show g.ra++QS.runPG' g.run=g.ra;rw [h];exact v6 _
 ·cases hd:Q2 d with
  |none=>
   refine⟨?_,λ_ z=>by cases z⟩
   show g.ra++QS.runPG' g.run=g.ra;rw [h];exact v6 _
  |some rs=>
   refine⟨?_,λz=>by cases z⟩
   show g.ra++(R0 rs g.n).gs=g.ra;rw [show(R0 rs g.n).gs= [] from runS_gs _ _ _ _]
   exact v6 _
theorem YM (ha:GA g)(he:g.en=UU)(d:D):QS (y9 g d)=QS g++ [.tup [yA g,d]]/\GA (y9 g d):=by
 unfold y9;cases O:g.run with
 |none=>
  have U:=ha O he;erw[asks_beg (g:=⟨g.n,g.mb,[.tup [.tup [.str "rule",g.mb],d]],UU,g.en⟩) rfl d,h1,h2];refine[h1.trans ?_:h2];have e1:QS g= []:=by unfold QS;rw [U,O];rfl
  have Z:yA g= .tup [.str "rule",g.mb]:=by unfold yA;rw [O]
  rw [e1,Z]
  rfl
 |some p=>
  erw[p,rs,r];refine⟨?_,λz=>by cases z⟩
  show g.ra++(ansS rs g.n r d).gs=QS g++_;have Z:yA g=X7 r.th:=by unfold yA;rw [O]
  have e3:QS g=g.ra++r.gs:=by unfold QS;rw [O];rfl
  rw [ansS_gs,Z,e3,vL]
theorem ga_g0 {d:D}(h:g0D m d=u_ g):GA g/\QS g= []:=by
 unfold g0D at h;split at h
 ·split at h
  ·cases h
  ·split at h
   ·cases h;exact[λ_ _=>rfl:1]
   ·cases h;erw[asks_beg (g:=⟨m,.non,[],UU,UU⟩) rfl _,h1,h2];exact[h2:h1]
 ·cases h
theorem once_ok (U:Qn qs)(O:g0D m (qD qs m)=UU):Xv ((Wc (qD qs m)).getD .non):=by
 by_cases hm:m∈qs.map (·.1)
 ·erw[wS U hm,hn,k,e,hd,h1,h2];rw [hd] at O⊢;unfold g0D at O;simp only at O;by_cases c:k="leaf"
  ·exact .inr (h2 (by rw [c];decide+kernel)).2
  ·rw [A2 c] at O;split at O<;>cases O
 ·rw [y6 hm];exact .inl rfl
theorem wX (Z:Qn qs){f:Sy.Orc}(hf:∀m a,f m=u_ a->Xv (a.getD .non))(h:GI g)(ha:GA g):GI (Sy.step (SyP qs) f g)/\GA (Sy.step (SyP qs) f g):=by
 have e:Sy.step (SyP qs) f g=if g.en.isSome=v_ then g else match yD g with
  |none=>ownP qs g
  |some m=>match f m with
   |some a=>y9 g (a.getD .non)
   |none=>stkP g m:=rfl
 rw [e];cases O:g.en with
 |some d=>exact[h:ha]
 |none=>
  simp only [vH,A2 u9];cases U:yD g with
  |none=>
   erw[YS (qs:=qs) h O U,rs,r,k,z,_,_,hk,_,e];exists gi_own Z h O U;show GA (ownP qs g);rw [e];exact(YM ha O _).2
  |some m=>
   simp only;cases hm:f m with
   |some a=>exact[gi_take h O (hf m a hm):(YM ha O _).2]
   |none=>exact⟨gi_stk h m,λ_ z=>by cases z⟩
theorem it_gi (O:Qn qs){f:Sy.Orc}(U:∀m a,f m=u_ a->Xv (a.getD .non)):∀(k:Nat) {g:Gp},GI g->GA g->GI (Sy.it (SyP qs) f k g)/\GA (Sy.it (SyP qs) f k g)
 |0,g,h,ha=>[h:ha]
 |k+1,g,h,ha=>it_gi O U k (wX O U h ha).1 (wX O U h ha).2
theorem Fh_ok (U:Qn qs):∀(k:Nat) (m:Str) (a:om D),Sy.Fh (SyP qs) k m=u_ a->Xv (a.getD .non)
 |0,m,a,h=>by
  cases O:(SyP qs).g0 m with
  |none=>rw [Sy.ZB O] at h;cases h;exact once_ok U O
  |some g=>rw [Sy.Ku O] at h;cases h
 |k+1,m,a,h=>by
  cases O:(SyP qs).g0 m with
  |none=>rw [Sy.ZB O] at h;cases h;exact once_ok U O
  |some g=>
   rw [Sy.Fh_run O] at h;have Z:=it_gi U (Fh_ok U k) 302 (gi_g0 U O).1 (ga_g0 O).1;cases hs:(SyP qs).said (Sy.it (SyP qs) (Sy.Fh (SyP qs) k) (SyP qs).M g) with
   |none=>rw [hs] at h;cases h
   |some v=>
    rw [hs] at h;cases h;exact .inr (said_ok Z.1 hs)
theorem F_ok (O:Qn qs)(m:Str)(a:om D)(h:FP qs m=u_ a):Xv (a.getD .non):=by
 erw[(Sy.F_iff (yC qs)).mp h,k,h];exact Fh_ok O k m a h
theorem WW (O:Qn qs)(U:g0D m (qD qs m)=u_ g)(k:Nat):GI (itP qs k g)/\GA (itP qs k g):=it_gi O (F_ok O) k (gi_g0 O U).1 (ga_g0 U).1
theorem step_asks (ha:GA g):∃l,QS (Sy.step (SyP qs) (FP qs) g)=QS g++l:=by
 rw [ZI];cases O:g.en with
 |some d=>exact[[]:(v6 _).symm]
 |none=>
  simp only [vH,A2 u9];cases U:yD g with
  |none=>
   show∃l,QS (ownP qs g)=_;unfold ownP;split
   ·exact[_:(YM ha O _).1]
   ·exact[[]:(v6 _).symm]
  |some m=>
   simp only;cases FP qs m with
   |some a=>exact[_:(YM ha O _).1]
   |none=>exact[[]:(v6 _).symm]
theorem it_asks (O:Qn qs):∀(k:Nat) {g:Gp},GI g->GA g->∃l,QS (itP qs k g)=QS g++l
 |0,g,h,ha=>[[]:(v6 _).symm]
 |k+1,g,h,ha=>by
  erw[step_asks (qs:=qs) ha,U,Z];erw[wX O (F_ok O) h ha,h1,h2];erw[it_asks O k h1 h2,l2,e2];exists U++l2;show QS (itP qs k (Sy.step (SyP qs) (FP qs) g))=_;rw [e2,Z,vL]
noncomputable def Bhd (qs:oj (Str×D))(c:Gp)(l:oj D):Prop:=
 (∀kd z,yD c=UU->yA c= .tup [.str kd,.str z]->∃r,l= .tup [yA c,yM qs kd z]::r)/\
 ∀m,yD c=u_ m->(∀a,FP qs m=u_ a->∃r,l= .tup [yA c,a.getD .non]::r)/\(FP qs m=UU->l= [])
theorem behind (hq:Qn qs){c:Gp}(h:GI c)(ha:GA c)(he:c.en=UU)(j:Nat):∃l,QS (itP qs (j+1) c)=QS c++l/\Bhd qs c l:=by
 erw[wX hq (F_ok hq) h ha,h1,h2];erw[it_asks hq j h1 h2,l2,e2];have e0:QS (itP qs (j+1) c)=QS (Sy.step (SyP qs) (FP qs) c)++l2:=e2;have es:=ZI (qs:=qs) c;rw [he] at es;simp only [vH,A2 u9] at es;cases O:yD c with
 |none=>
  rw [O] at es;erw[YS (qs:=qs) h he O,rs,r,k,z,ac,ad,hk,_,e];have es:Sy.step (SyP qs) (FP qs) c=y9 c (yM qs k z):=es.trans e;rw [es,(YM ha he _).1,vL] at e0;refine⟨_,e0,λkd y _ U=> ?_,λm z=>by cases O.symm.trans z⟩
  have Z:kd=k/\y=z:=by
   have hp:yA c= .tup [.str k,.str z]:=by
    unfold yA;rw [ac];show X7 r.th=_;rw [ad]
    rfl
   rw [hp] at U;cases U;exact[1:1]
  rw [Z.1,Z.2];exact⟨0⟩
 |some m=>
  rw [O] at es;simp only at es;cases hf:FP qs m with
  |some a=>
   rw [hf] at es;rw [es,(YM ha he _).1,vL] at e0;refine⟨_,e0,(λkd y z=>by cases O.symm.trans z),λm' z=> ?_⟩
   cases O.symm.trans z;exact⟨(λb hb=>by rw [hf] at hb;cases hb;exact⟨0⟩),λz=>by rw [hf] at z;cases z⟩
  |none=>
   rw [hf] at es;have aa:itP qs (j+1) c=stkP c m:=by
    show itP qs j (Sy.step (SyP qs) (FP qs) c)=_;rw [es];exact Sy.JD (Y:=SyP qs) rfl j
   refine⟨[],?_,(λkd y z=>by cases O.symm.trans z),λm' z=> ?_⟩
   ·rw [aa,v6]
    rfl
   ·cases O.symm.trans z;exact⟨(λb hb=>by rw [hf] at hb;cases hb),λ_=>rfl⟩
end
noncomputable def Dn (qs:oj (Str×D))(n:Str)(don:oj (Str×Gp)):Prop:=∃j,Sy.nx (Sy.S0 (SyP qs) n) j=[[]:don]
section
variable {qs:oj (Str×D)}{n:Str}{don don':oj (Str×Gp)}
theorem dn_one (h:Dn qs n don)(k:Dn qs n don'):don=don':=by
 erw[h,i,hi];erw[k,j,O];have e:=Sy.nx_one (S:=Sy.S0 (SyP qs) n) (k:=i) (j:=j) (by rw [hi]) (by rw [O])
 rw [hi,O] at e;exact congrArg Sy.Ss.don e
theorem Z1 (O:g0D n (qD qs n)=UU)(h:Dn qs n don):don= []:=by
 have U:Sy.S0 (SyP qs) n=⟨[],[]⟩:=by unfold Sy.S0;rw [show(SyP qs).g0 n=UU from O]
 exact dn_one h [(0):U]
theorem dn_ok (O:g0D n (qD qs n)=u_ g)(h:Dn qs n don):Sy.SOk (Y:=SyP qs) n [[]:don]:=by
 erw[h,j,U];rw [<-U];exact Sy.nx_ok (yC qs) (Sy.S0_ok O) j
theorem zj (O:g0D n (qD qs n)=u_ g)(h:Dn qs n don):(don.map (·.1)).getLast? =u_ n:=by
 rcases(dn_ok O h).bot with b|⟨_,b⟩
 ·cases b
 ·exact b
theorem jO (h:Dn qs n don){p:Str×Gp}(O:p∈don):∃s,g0D p.1 (qD qs p.1)=u_ s/\p.2=Sy.it (SyP qs) (Sy.F (SyP qs)) 302 s:=by
 cases U:g0D n (qD qs n) with
 |none=>rw [Z1 U h] at O;cases O
 |some g=>exact(dn_ok U h).don p O
theorem dn_nd (h:Dn qs n don):(don.map (·.1)).Nodup:=by
 cases O:g0D n (qD qs n) with
 |none=>rw [Z1 O h];exact vX
 |some g=>exact(dn_ok O h).nd
end
noncomputable def asksP (p:Gp):D:= .tup (p.ra++runPG p.run)
noncomputable def endP (p:Gp):D:=p.en.getD .non
theorem fullP_eq (p:Gp):JJ p= .tup [asksP p,endP p]:=rfl
theorem rk_vs:∀{rk:oj (Key×V)}{don:oj (Str×Gp)},(rk.map (·.1)=don.map λp=>UZ p.1)->∃vs:oj (Str×V),rk=inrK vs/\vs.map (·.1)=don.map (·.1)/\vs.map (·.2)=rk.map (·.2)
 | [],[],_=>⟨[],1,1,1⟩
 | [],_::_,h=>by cases h
 |_::_,[],h=>by cases h
 |(k,v)::r,p::l,h=>by
  injection h with h1 h2
  erw[rk_vs h2,vs,O,U,Z];refine⟨(p.1,v)::vs,?_,?_,?_⟩
  ·rw [Xc,<-O];have h1:k=UZ p.1:=h1;rw [h1]
  ·rw [uq,uq,U]
  ·rw [uq,uq,Z]
theorem gi_nd {p:Gp}(h:GI p)(O:p.en.isSome=v_):nD (asksP p)=v_/\dp (asksP p)<=31/\nD (endP p)=v_/\dp (endP p)<=20:=by
 have h1:nL (p.ra++runPG p.run)=v_/\dpL (p.ra++runPG p.run)<=30:=by
  cases hr:p.run with
  |none=>exact⟨nL_app h.ra.1 rfl,dpL_app 30 h.ra.2.1 (by simp [dpL,runPG])⟩
  |some q=>
   erw[q,rs,r];have h2:=(h.run rs r hr).2.1.gs;exact[nL_app h.ra.1 h2.1:dpL_app 30 h.ra.2.1 h2.2.1]
 refine⟨h1.1,by show 1+_<=31;omega,?_⟩
 unfold endP;cases U:p.en with
 |none=>rw [U] at O;cases O
 |some d=>
  show nD d=v_/\dp d<=20;rcases h.en d U with⟨z,rfl⟩|⟨x,rfl,Z⟩|⟨z,rfl⟩
  ·exact⟨1,by show dp (.tup [.str "fault",.str z])<=20;simp [dp,dpL]⟩
  ·have:=Jn Z;refine[?_:?_]
   ·simp only [nD,nL,wb (QZ Z),vE]
   ·simp only [dp,dpL];omega
  ·exact⟨1,by simp [dp,dpL]⟩
variable {don:oj (Str×Gp)}
theorem dn_yet {n:Str}(h:Dn qs n don)(hm:g0D m (qD qs m)=UU∨m∈don.map (·.1)):Sy.yet #[Y,[],don] m=u_ (FP qs m):=by
 cases U:(SyP qs).g0 m with
 |none=>
  unfold Sy.yet;rw [A2 (by intro z;cases z),U]
  show u_ (u_ ((SyP qs).once m))=u_ (FP qs m);rw [show FP qs m=_ from Sy.F_once (yC qs) U]
 |some g=>
  rcases hm with hm|hm
  ·rw [show(SyP qs).g0 m=UU from hm] at U;cases U
  ·erw[A8.mp hm,[O,p],hp,rfl];have hd:Sy.Yj (Y:=SyP qs) don O=u_ p:=by
    have Z:=dn_nd h;unfold Sy.Yj;have:(don.find? λq=>decide (q.1=O))=u_ (O,p):=by
     clear h hm
     induction don with
     |nil=>cases hp
     |cons q r ih=>
      rw [uq,U1] at Z;rcases A5.mp hp with rfl|hp
      ·rw [uS,ub rfl]
      ·have aa:q.1≠O:=λz=>Z.1 (by rw [z];exact A8.mpr [_:hp:1])
       rw [uS,ud aa];exact ih hp Z.2
    have e2:(FU (λq:Str×Gp=>decide (q.1=O)) don).map (·.2)=u_ p:=by rw [this];rfl
    exact e2
   erw[jO h hp,s,e2,e3];have e2:(SyP qs).g0 O=u_ s:=e2;rw [U] at e2;cases e2;unfold Sy.yet;rw [A2 (by intro z;cases z),U]
   show(Sy.Yj (Y:=SyP qs) don O).map (λg=>((SyP qs).said g).map u_)=u_ (FP qs O);rw [hd];show u_ (((SyP qs).said p).map u_)=u_ (FP qs O);rw [show FP qs O=_ from Sy.F_run (yC qs) U]
   have e3:p=Sy.it (SyP qs) (Sy.F (SyP qs)) 302 g:=e3;rw [e3]
   rfl
end K25
namespace K25
open PySem L2 PyProof.Rows
structure OrdF (CO CP:o3)(H0 H:Hp)(qs:oj (Str×D))(n:Str)(o:Oc)(rk uk fk:oj (Key×V))(don:oj (Str×Gp)):Prop where
 sm:Same H0 H
 oa:OAt CO CP H o qs
 dr:H o.dr=u_ (.dK rk)
 ks:rk.map (·.1)=don.map λp=>UZ p.1
 vs:L2.IsL H (don.map λp=>JJ p.2) (rk.map (·.2))
 du:H o.du=u_ (.dK uk)
 uo:UkOk #[Y,[],don] uk
 df:H o.df=u_ (.dK fk)
 fd:FdOk H #[Y,[],don] fk
 fl:fk.length<=20101
 dn:Dn qs n don
 sg:SGI #[Y,[],don]
 gi:∀p∈don,GI p.2/\p.2.en.isSome=v_
 len:don.length<=20001
 new:H0 o.x=UU/\H0 o.dr=UU/\H0 o.du=UU/\H0 o.df=UU
 ne:o.dr≠o.df/\o.du≠o.df
variable {CO CP:o3}{H H':Hp}{qs:oj (Str×D)}{fk:oj (Key×V)}{don:oj (Str×Gp)}
theorem OrdF.same {H0:Hp}{n:Str}{o:Oc}{rk uk:oj (Key×V)}(h:OrdF CO CP H0 H qs n o rk uk fk don)(s:Same H H'):OrdF CO CP H0 H' qs n o rk uk fk don:=
 ⟨h.sm.trans s,[s _ _ h.oa.e:h.oa.p.same s],s _ _ h.dr,h.ks,h.vs.mono s.tk,s _ _ h.du,h.uo,s _ _ h.df,h.fd.mono s.tk,h.fl,h.dn,h.sg,h.gi,h.len,h.new,h.ne⟩
inductive sp_chk (vs:List V) (H:Hp) (Q:VK) (E_:XK):Prop
 |mk (z:_) (_:vs= [.str z]) (_:nm z=v_) (_:∀H',Same H H'->Q .non H')
inductive sp_chks (vs:List V) (H:Hp) (Q:VK) (E_:XK):Prop
 |mk (t:_) (z:_) (_:vs= [.ref t]) (_:H t=u_ (.tup [.str z])) (_:nm z=v_) (_:∀H',Same H H'->Q .non H')
inductive sp_over (CO CP:Addr) (vs:List V) (H:Hp) (Q:VK) (E_:XK):Prop
 |mk (px t:Addr) (n:Str) (qs:List (Str×D)) (_:vs= [.ref px,.ref t]) (_:H t=u_ (.tup [.str n])) (_:nm n=v_) (_:yw CP H px qs) (_:Qn qs) (_:∀H' o rk uk fk don,o.px=px->OrdF CO CP H H' qs n o rk uk fk don->fk.length<=20001->Q (.ref o.x) H')
inductive sp_from (CO CP:Addr) (vs:List V) (H:Hp) (Q:VK) (E_:XK):Prop
 |mk (px:Addr) (n:Str) (qs:List (Str×D)) (_:vs= [.ref px,.str n]) (_:nm n=v_) (_:yw CP H px qs) (_:Qn qs) (_:∀H' o rk uk fk don,o.px=px->OrdF CO CP H H' qs n o rk uk fk don->fk.length<=20001->Q (.ref o.x) H')
theorem dn_self {n:Str}(h:Dn qs n don):g0D n (qD qs n)=UU∨n∈don.map (·.1):=by
 cases O:g0D n (qD qs n) with
 |none=>exact .inl rfl
 |some g=>exact .inr (gU (zj O h))
section
variable {P:o9}{w:og}{K:o0}{mg:Str->om o6}{base:o8}{a:Ad}{g:Ga}
theorem ok_chk (T:Tx K mg a):#[K,2,a.zZ,a.zI,["name"],sp_chk]:=by
 have U:=#[zp,T];exists 9,T.g_check_name,kt,Z
 erw[h,z,rfl,O,k];have hl:=wE O;exists _,%[|#[qI,#[Qz,#[Qq,#[qt,U,Z.mono (),T.g_is_name,#v[pv 0]]]],%[|Y2],qy]]
 exists 7
 refine⟨0,.str z,.str z,1,Jd (),λH1 s1=>[0:?_]⟩
 have e:isNm (.str z)=true:=O;rw [e];exact iteF (k H1 s1)
theorem ok_chks (T:Tx K mg a):#[K,3,a.Xk,a.Xg,["names"],sp_chks]:=by
 have O:=#[ok_chk,T];exists 9,T.g_check_names,xi
 erw[h,t,z,rfl,Z,hz,k];exists _,%[|#[jV,#[WR,pv 0],#[qV,(1),xi.nd],%[|#[Qa,#[qt,O,hr.mono (),T.g_check_name,#v[pv 1]]]]]]
 exists 7
 exists 0,t,1,[_:SqT.of Z];refine zA (xs:= [.str z]) (λi σ H'=>(∃u,σ= [u_ (.ref t),u])/\Same H H') [⟨0⟩:Same.refl _] (λi σ H' _ h=>SqT.of (h.2 _ _ Z)) ?_ ?_
 ·rintro i x σ H' hx ⟨⟨u,rfl⟩,s1⟩;have U:x= .str z:=by
   cases i with
   |zero=>exact(uH hx).symm
   |succ i=>cases hx
  subst U;exact⟨0,z,1,hz,λH2 s2=>[⟨0⟩:s1.trans s2]⟩
 ·rintro σ H' ⟨_,s1⟩;exact k H' s1
theorem ok_over (T:Tx K mg a)(C:Fx K w mg g a):#[K,14,a.zR,a.zJ,["project","names"],(sp_over a.qq a.qF)]:=by
 have kA:=#[ok_chks,T];have zC:=#[ok_oinit,T];have jy:=#[ok_thru,T,C];exists 9,T.g_order_over,jE
 erw[h,px,t,n,qs,rfl,ht,hn,hP,hq,k1];exists _,%[#[Qa,#[qt,kA,hr.mono (),T.g_check_names,#v[pv 1]]],#[qE,(2),jE.nd,#[zm,T.M_PlainOrder,zC,hr.mono (),T.m_PlainOrder,T.g_PlainOrder_init,qB,#v[pv 0]]],#[jV,#[WR,pv 1],#[qV,(3),jE.nd],%[|#[Qa,#[Qm,pv 2,T.qx,T.g_PlainOrder_go_through,jy,#v[pv 3]]]]]|#[qu,pv 2]]
 exists 7
 exists 8,N1,q1;refine⟨0,t,n,1,ht,hn,λH1 s1=>q1 _ _ ?_⟩;exists 8,N2,q2;refine[0:λx dx hx aq nx=> ?_];have s0:Same H1 (upd (upd H1 dx (.own x)) x (.ins a.qq dx [])):=λb o h=>by rwa [qk (ql h hx),qk (ql h aq)]
 refine⟨x,dx,px,1,qi,λo H2 eo au aw kp tk f1 f2 f3 f4 nd ac ad ae af ag=>[1:q2 _ _ ?_]⟩;exists 8,N3,q3;have ax:Same H1 H2:=λb ob h=>kp b ob (s0 b ob h) (ql h hx);have O:=s1.trans ax;have ah:=O _ _ ht;subst eo au aw;have hB:Bs a.qq a.qF H2 o qs:=⟨[ac:hP.same O],[_:ad],[_:ae],[_:af],[_:ag],nd,hq⟩;exists 0,t,1,[_:SqT.of ah];have fr:∀b,upd (upd H1 o.dx (.own o.x)) o.x (.ins a.qq o.dx []) b=UU->H b=none:=λb U=>by
  cases e:H b with
  |none=>rfl
  |some ob=>rw [s0 b ob (s1 b ob e)] at U;cases U
 let J_:Nat->L2.St->Hp->Prop:=λi σ H'=>(∃u,σ= [u_ (.ref o.px),u_ (.ref t),u_ (.ref o.x),u])/\((i=0/\H'=H2)∨(i=1/\∃rk uk fk don,OrdF a.qq a.qF H H' qs n o rk uk fk don/\fk.length<=20001))
 refine zA (xs:= [.str n]) J_ [⟨0⟩:.inl [1:1]] (λi σ H' _ h=> ?_) ?_ ?_
 ·rcases h.2 with⟨_,rfl⟩|⟨_,rk,uk,fk,don,h,_⟩
  ·exact SqT.of ah
  ·exact SqT.of (h.sm _ _ ht)
 ·rintro i x' σ H' ak ⟨⟨u,rfl⟩,h⟩;have Z:x'= .str n/\i=0:=by
   cases i with
   |zero=>exact[(uH ak).symm:1]
   |succ i=>cases ak
  erw[Z,rfl,rfl];rcases h with⟨_,rfl⟩|⟨z,_⟩
  ·refine⟨0,o.x,o.dx,0,ac,X0 o _ (),0,o,qs,n,1,hB,ad,ae,af,ag,λH3 rk uk fk don j al ay am aA aB aC k3 aD ao aE aF aG ap=> ?_⟩
   have out:∀b,H b≠UU->b∉LO o:=λb U z=>by
    simp only [LO,uB,uC,uL] at z;rcases z with rfl|rfl|rfl|rfl
    ·exact U (fr _ f1)
    ·exact U (fr _ f2)
    ·exact U (fr _ f3)
    ·exact U (fr _ f4)
   have aa:=nd;simp only [U1,uB,uC,uL,US,vX,and_true,UM] at aa;have Z:H o.x=none:=by
    cases e:H o.x with
    |none=>rfl
    |some ob=>rw [s1 _ _ e] at hx;cases hx
   exact⟨⟨0⟩,.inr ⟨1,rk,uk,fk,don,⟨λb ob e=>k3.kept b ob (O b ob e) (out b (by rw [e];intro z;cases z)),hB.at k3,ao,aE,aF,al,ay,am,aA,(),[j:aD],aC,aG,ap,⟨Z,fr _ f3,fr _ f2,fr _ f4⟩,[aa.2.2:aa.2.1.2]⟩,aB⟩⟩
  ·cases z
 ·rintro σ H' ⟨⟨u,rfl⟩,h⟩;rcases h with⟨z,_⟩|⟨_,rk,uk,fk,don,h,hl⟩
  ·cases z
  ·exact q3 _ _ [0:k1 H' o rk uk fk don rfl h hl]
theorem Kz (T:Tx K mg a)(C:Fx K w mg g a):#[K,15,a.zK,a.Zb,["project","name"],(sp_from a.qq a.qF)]:=by
 have O:=#[ok_over,T,C];exists 9,T.g_order_from,kn,U
 erw[h,px,n,qs,rfl,hn,Z,hq,k1];have hs:=uA;exists _,%[|#[qu,#[qt,O,U.mono (),T.g_order_over,#v[pv 0,#[qG,#v[pv 1]]]]]]
 exists 7
 refine⟨0,0,(sml rfl),λt ht=> ?_⟩;have s1:=qh ht (.tup [V.str n]);exact⟨px,t,n,qs,1,qi,hn,Z.same s1,hq,λH' o rk uk fk don e h hl=>k1 H' o rk uk fk don e ⟨s1.trans h.sm,h.oa,h.dr,h.ks,h.vs,h.du,h.uo,h.df,h.fd,h.fl,h.dn,h.sg,h.gi,h.len,⟨s1.free h.new.1,s1.free h.new.2.1,s1.free h.new.2.2.1,s1.free h.new.2.2.2⟩,h.ne⟩ hl⟩
end
theorem asksP_eq (p:Gp):asksP p= .tup (QS p):=by
 unfold asksP QS;cases p.run with
 |none=>rfl
 |some q=>rfl
noncomputable def AskF (qs:oj (Str×D))(x:D):Prop:=∃kd z a,x= .tup [.tup [.str kd,.str z],a]/\z.length<=1000/\((isHN kd=v_/\a=yM qs kd z)∨isHN kd=UV)
variable {g:Gp}{m:Str}
theorem wn_some (h:GI g)(O:yD g=u_ m):∃kd,yA g= .tup [.str kd,.str m]/\isHN kd=false:=by
 unfold yD at O;split at O
 ·rename_i k z e
  by_cases c:isHN k=v_
  ·rw [A3 c] at O;cases O
  ·rw [A2 c] at O;cases O;exact⟨k,e,by simpa using c⟩
 ·cases O
theorem wn_len {kd:Str}(h:GI g)(he:g.en=UU)(U:yA g= .tup [.str kd,.str m]):m.length<=1000:=by
 unfold yA at U;cases Z:g.run with
 |none=>
  rw [Z] at U;erw[h.no Z he,z,hz,hn];simp only [hz] at U;cases U;have:=wE hn;omega
 |some p=>
  erw[p,rs,r];rw [Z] at U;erw[h.run rs r Z,_,_,ht,O];have O:=O he;rcases ht with⟨z,e⟩|⟨e1,e,_⟩|⟨u,z,e,hT,_⟩
  ·rw [e] at O;exact absurd (show decide (("fault":Str)="asks")=v_ from O) ()
  ·rw [e] at O;exact absurd (show decide (("said":Str)="asks")=v_ from O) ()
  ·simp only [e] at U;have U:(D.tup [.str u,.str z])= .tup [.str kd,.str m]:=U;cases U;have:=YI hT;have:m.length<=600:=this;omega
section
variable {qs:oj (Str×D)}
theorem step_F (hq:Qn qs)(h:GI g)(ha:GA g)(hF:∀x∈QS g,AskF qs x):∀x∈QS (Sy.step (SyP qs) (FP qs) g),AskF qs x:=by
 have Z:∀{d:D},g.en=UU->(∀kd z,yA g= .tup [.str kd,.str z]->(isHN kd=v_/\d=yM qs kd z)∨isHN kd=UV)->(∃kd z,yA g= .tup [.str kd,.str z])->∀x∈QS (y9 g d),AskF qs x:=by
  intro d O h1 ⟨kd,z,e⟩ x U;rw [(YM ha O d).1] at U;rcases A7.mp U with U|U
  ·exact hF x U
  ·cases A6.mp U;exact⟨kd,z,d,by rw [e],wn_len h O e,h1 kd z e⟩
 rw [ZI];cases O:g.en with
 |some d=>exact hF
 |none=>
  simp only [vH,A2 u9];cases hw:yD g with
  |none=>
   erw[YS (qs:=qs) h O hw,rs,r,k,z,aa,ac,hk,_,e];show∀x∈QS (ownP qs g),_;rw [e];have hp:yA g= .tup [.str k,.str z]:=by
    unfold yA;rw [aa];show X7 r.th=_;rw [ac]
    rfl
   exact Z O (λkd y e2=>by rw [hp] at e2;cases e2;exact .inl [hk:1]) [k:z:hp]
  |some m=>
   simp only;erw[wn_some h hw,kd,hp,hk];cases FP qs m with
   |some a=>exact Z O (λad y e2=>by rw [hp] at e2;cases e2;exact .inr hk) [kd:m:hp]
   |none=>exact hF
theorem it_F (O:Qn qs):∀(k:Nat) {g:Gp},GI g->GA g->(∀x∈QS g,AskF qs x)->∀x∈QS (itP qs k g),AskF qs x
 |0,g,h,ha,t=>t
 |k+1,g,h,ha,t=>by
  erw[wX O (F_ok O) h ha,h1,h2];exact it_F O k h1 h2 (step_F O h ha t)
theorem asks_F (U:Qn qs)(O:g0D m (qD qs m)=u_ g)(k:Nat):∀x∈QS (itP qs k g),AskF qs x:=
 it_F U k (gi_g0 U O).1 (ga_g0 O).1 (λx Z=>by rw [(ga_g0 O).2] at Z;cases Z)
noncomputable def ansT (qs:oj (Str×D)) (m:Str):D:=match g0D m (qD qs m) with
 |none=>Xz (qD qs m)
 |some g=>Qt ((itP qs 302 g).en.getD .non)
theorem don_look {n:Str}{p:Gp}(h:Dn qs n don)(U:(m,p)∈don):Sy.Yj (Y:=SyP qs) don m=u_ p:=by
 have O:=dn_nd h;unfold Sy.Yj;have:(don.find? λq=>decide (q.1=m))=u_ (m,p):=by
  clear h
  induction don with
  |nil=>cases U
  |cons q r ih=>
   rw [uq,U1] at O;rcases A5.mp U with rfl|U
   ·rw [uS,ub rfl]
   ·have Z:q.1≠m:=λz=>O.1 (by rw [z];exact A8.mpr [_:U:1])
    rw [uS,ud Z];exact ih U O.2
 have e2:(FU (λq:Str×Gp=>decide (q.1=m)) don).map (·.2)=u_ p:=by rw [this];rfl
 exact e2
theorem ans_X {n:Str}(h:Dn qs n don)(hm:g0D m (qD qs m)=UU∨m∈don.map (·.1)):ansX qs don m=ansT qs m:=by
 unfold ansX ansT;cases Z:g0D m (qD qs m) with
 |none=>rfl
 |some g=>
  rcases hm with hm|hm
  ·rw [Z] at hm;cases hm
  ·erw[A8.mp hm,[m',p],hp,rfl];erw[jO h hp,s,O,U];have O:g0D m' (qD qs m')=u_ s:=O;rw [Z] at O;cases O;have U:p=itP qs 302 g:=U;simp only [don_look h hp];rw [<-U]
   rfl
noncomputable def stkO (d:D):om Str:=match d with
 | .tup [.str k,.str m]=>if k="stuck" then u_ m else UU
 |_=>UU
variable {e:D}{x:Str}
theorem ths_ns (h:ThS e):e≠ .tup [.str "stuck",.str x]:=by
 intro z;rcases h with⟨y,rfl⟩|⟨y,rfl,_⟩|⟨u,y,rfl,_⟩
 ·injection z with z;injection z with z _;injection z with z;revert z;decide+kernel
 ·injection z with z;injection z with z _;injection z with z;revert z;decide+kernel
 ·injection z with z;injection z with z _;injection z with z;revert z;decide+kernel
theorem en_th {r:Rn}(h:ThS r.th)(k:enOf r=u_ e):ThS e:=by
 unfold enOf at k;by_cases c:QO r.th=v_
 ·rw [A3 c] at k;cases k
 ·rw [A2 c] at k;cases k;exact h
theorem beg_en {d:D}(k:(begP g d).en=u_ e):ThS e:=by
 unfold begP at k;split at k
 ·cases k;exact .inl ⟨0⟩
 ·cases O:Q2 d with
  |none=>rw [O] at k;cases k;exact .inl ⟨0⟩
  |some rs=>rw [O] at k;exact en_th (R0_sh (wH O).2) k
theorem take_en {d:D}(h:GI g)(U:g.en=UU)(ha:Xv d)(k:(y9 g d).en=u_ e):ThS e:=by
 unfold y9 at k;cases O:g.run with
 |none=>rw [O] at k;exact beg_en k
 |some p=>
  erw[p,rs,r];rw [O] at k;erw[h.run rs r O,h1,h2,h3,h4];exact en_th (ansS_sh h1 h2 (h4 U) ha) k
theorem stk_at (hq:Qn qs){m x:Str}{s:Gp}(U:g0D m (qD qs m)=u_ s):∀k,(itP qs k s).en=u_ (.tup [.str "stuck",.str x])->∃i,(itP qs i s).en=UU/\yD (itP qs i s)=u_ x/\FP qs x=UU
 |0,O=>by
  have O:s.en=u_ _:=O;unfold g0D at U;split at U
  ·split at U
   ·cases U
   ·split at U
    ·cases U;cases O
    ·cases U;exact absurd rfl (ths_ns (beg_en O))
  ·cases U
 |k+1,O=>by
  have e0:itP qs (k+1) s=Sy.step (SyP qs) (FP qs) (itP qs k s):=Sy.kX (Y:=SyP qs) k s;rw [e0,ZI] at O;erw[WW hq U k,gi,ga];cases Z:(itP qs k s).en with
  |some d=>
   rw [Z] at O;simp only [rL,UT] at O;exact stk_at hq U k O
  |none=>
   rw [Z] at O;simp only [vH,A2 u9] at O;cases hw:yD (itP qs k s) with
   |none=>
    rw [hw] at O;erw[YS (qs:=qs) gi Z hw,rs,r,k',z,ad,ae,aa,_,e];have O:(ownP qs (itP qs k s)).en=_:=O;have ac:=gi_own hq gi Z hw;rw [e] at O ac;exact absurd rfl (ths_ns (take_en gi Z (.inr (ZM hq z aa).1) O))
   |some m'=>
    rw [hw] at O;simp only at O;cases hF:FP qs m' with
    |some a=>
     rw [hF] at O;exact absurd rfl (ths_ns (take_en gi Z (F_ok hq _ _ hF) O))
    |none=>
     rw [hF] at O;have O:u_ (D.tup [.str "stuck",.str m'])=u_ (.tup [.str "stuck",.str x]):=O;cases O;exact⟨k,Z,hw,hF⟩
theorem stk_en (h:EnS e)(k:stkO (Qt e)=u_ x):e= .tup [.str "stuck",.str x]:=by
 rcases h with⟨z,rfl⟩|⟨y,rfl,_⟩|⟨z,rfl⟩
 ·have O:Qt (flt z)=flt z:=by unfold Qt flt;dsimp only;exact A2 ()
  rw [O] at k;have k:(if("fault":Str)="stuck" then u_ z else UU)=u_ x:=k
  rw [A2 ()] at k
  cases k
 ·have O:Qt (.tup [.str "said",y])= .tup [.str "value",y]:=by unfold Qt;dsimp only;exact A3 rfl
  rw [O] at k;cases y with
  |str w=>
   have k:(if("value":Str)="stuck" then u_ w else UU)=u_ x:=k
   rw [A2 ()] at k
   cases k
  |_=>cases k
 ·have O:Qt (.tup [.str "stuck",.str z])= .tup [.str "stuck",.str z]:=by unfold Qt;dsimp only;exact A2 ()
  rw [O] at k;have k:(if("stuck":Str)="stuck" then u_ z else UU)=u_ x:=k
  rw [A3 rfl] at k;cases k
  rfl
theorem JI {s:Gp}(O:g0D m (qD qs m)=u_ s):(itP qs 302 s).en.isSome=true:=Sy.it_end (Y:=SyP qs) (yC qs) 302 s ((yC qs).l0 m s O)
theorem stk_in (hq:Qn qs){n:Str}(h:Dn qs n don)(hm:m∈don.map (·.1))(Z:stkO (ansT qs m)=u_ x):x∈don.map (·.1):=by
 erw[A8.mp hm,[m',p],hp,rfl];erw[jO h hp,s,O,e2];have O:g0D m' (qD qs m')=u_ s:=O;unfold ansT at Z;rw [O] at Z;simp only at Z;have hf:=JI O;cases he:(itP qs 302 s).en with
 |none=>rw [he] at hf;cases hf
 |some e=>
  rw [he] at Z;have ee:=stk_en ((WW hq O 302).1.en e he) Z;rw [ee] at he;erw[stk_at hq O 302 he,i,h1,h2,h3];have U:∃g,g0D n (qD qs n)=u_ g:=by
   cases c:g0D n (qD qs n) with
   |none=>rw [Z1 c h] at hp;cases hp
   |some g=>exact[g:1]
  erw[U,g0,U];erw[h,j,hj];have fi:(SyP qs).fin (Sy.it (SyP qs) (Sy.F (SyP qs)) i s)=false:=by
   show(itP qs i s).en.isSome=UV;rw [h1]
   rfl
  rcases Sy.end_clo (yC qs) U hj hp O (i:=i) (m:=x) fi h2 with c|c
  ·rw [show FP qs x=_ from Sy.F_once (yC qs) c] at h3
   cases h3
  ·exact c
end
namespace Sy
variable {Y:Sy}
variable {S:Ss Y}
theorem nxt_nms (h:m∈jI S):m∈jI (nxt S):=by
 erw[S,stk,don];cases stk with
 |nil=>exact h
 |cons p r=>
  erw[p,n,g];unfold nxt;simp only;split
  ·unfold jI at h⊢;simp only [uq,ur,vR,vQ,uB,A7,uC,uL] at h⊢;rcases h with h|h|h
   ·exact .inr (.inr h)
   ·exact .inl h
   ·exact .inr (.inl h)
  ·split
   ·exact h
   ·split
    ·exact h
    ·exact h
    ·split
     ·exact uc _ h
     ·exact h
theorem nx_nms {S:Ss Y}{m:Str}{j:Nat}(h:m∈jI (nx S j)):∀d,m∈jI (nx S (j+d))
 |0=>h
 |d+1=>nxt_nms (nx_nms h d)
theorem nxt_fin {n:Str}{g:Y.G}{r:oj (Str×Y.G)}(O:S.stk=(n,g)::r)(U:Y.fin g=v_):nxt S=[r:S.don++ [(n,g)]]:=by
 unfold nxt;simp only [O,U,UT]
theorem Kk {n:Str}{g:Y.G}{r:oj (Str×Y.G)}(O:S.stk=(n,g)::r)(U:Y.fin g=UV)(Z:Y.want g=UU):nxt S=[(n,Y.own g)::r:S.don]:=by
 unfold nxt;simp only [O,U,A2 u9,Z]
theorem nxt_yet {n:Str}{g:Y.G}{r:oj (Str×Y.G)}{o:om (om D)}(O:S.stk=(n,g)::r)(U:Y.fin g=UV)(Z:Y.want g=u_ m)(hy:yet S m=u_ o):nxt S=⟨(n,match o with|some a=>Y.tk g a|none=>Y.stuck g m)::r,S.don⟩:=by
 unfold nxt;simp only [O,U,A2 u9,Z,hy];cases o<;>rfl
theorem nxt_in {n:Str}{g g':Y.G}{r:oj (Str×Y.G)}(O:S.stk=(n,g)::r)(U:Y.fin g=UV)(Z:Y.want g=u_ m)(hy:yet S m=UU)(hg:Y.g0 m=u_ g'):nxt S=[(m,g')::(n,g)::r:S.don]:=by
 unfold nxt;simp only [O,U,A2 u9,Z,hy,hg]
end Sy
noncomputable def Unt (qs':oj (Str×D))(ch:Str)(p:Str×Gp):Prop:=p.1≠ch/\p.2.en≠u_ (.tup [.str "stuck",.str ch])/\∀kd z a,D.tup [.tup [.str kd,.str z],a]∈QS p.2->(isHN kd=v_->yM qs' kd z=a)/\(isHN kd=UV->z≠ch)
noncomputable def cv {qs qs':oj (Str×D)}(S:Sy.Ss (SyP qs)):Sy.Ss (SyP qs'):=[S.stk:S.don]
section
variable {qs qs':oj (Str×D)}{n ch:Str}{don:oj (Str×Gp)}
theorem al_want (hq:Qn qs)(h:Dn qs n don)(U:∀p∈don,Unt qs' ch p){s:Gp}{k:Nat}(hg:g0D m (qD qs m)=u_ s)(hm:m∈don.map (·.1))(hk:g=itP qs k s)(he:g.en=UU):
  (∀x,yD g=u_ x->x≠ch)/\(yD g=UU->ownP qs' g=ownP qs g):=by
 erw[A8.mp hm,[m',p],hp,e];cases(show m'=m from e)
 erw[U _ hp,_,u2,u3];erw[jO h hp,s',e1,e2];cases hg.symm.trans e1;have e2:p=itP qs 302 s:=e2;have O:=JI hg;have ag:k<302:=by
  rcases Uv k 302 with c|c
  ·exact c
  ·erw[Uk c,d,rfl];have:itP qs (302+d) s=itP qs 302 s:=(Sy.Xj (Y:=SyP qs) (f:=FP qs) 302 d s).trans (Sy.JD (Y:=SyP qs) O d);rw [hk,this] at he;rw [he] at O;cases O
 obtain⟨j,hj⟩:=Uk (show k+1<=302 by omega)
 have hj:302=k+(j+1):=by omega
 erw[WW hq hg k,gi,ga];rw [<-hk] at gi ga;erw[behind hq gi ga he j,l,ea,bh];have ep:p=itP qs (j+1) g:=by
  rw [e2];have:=Sy.Xj (Y:=SyP qs) (f:=FP qs) k (j+1) s;rw [<-hj] at this;exact this.trans (by show itP qs (j+1) (itP qs k s)=_;rw [<-hk])
 rw [<-ep] at ea;constructor
 ·intro x hw;erw[wn_some gi hw,kd,Z,ad];cases hF:FP qs x with
  |some a=>
   erw[(bh.2 x hw).1 a hF,r,q];rw [Z] at q;exact(u3 kd x _ (by show _∈QS p;rw [ea,q];exact uI _ uf)).2 ad
  |none=>
   intro z;subst z;refine u2 ?_;show p.en=_;have es:=ZI (qs:=qs) g;rw [he] at es;simp only [vH,A2 u9] at es;rw [hw] at es;simp only at es;rw [hF] at es;have:itP qs (j+1) g=stkP g x:=by
    show itP qs j (Sy.step (SyP qs) (FP qs) g)=_;rw [es];exact Sy.JD (Y:=SyP qs) rfl j
   rw [ep,this]
   rfl
 ·intro hw;erw[YS (qs:=qs) gi he hw,rs,r,kd,z,ae,af,ad,_,e];erw[YS (qs:=qs') gi he hw,ah,r',ak,z',aa,ac,_,_,e'];rw [ae] at aa;cases aa;rw [af] at ac;cases ac;have Z:yA g= .tup [.str kd,.str z]:=by
   unfold yA;rw [ae];show X7 r.th=_;rw [af]
   rfl
  erw[bh.1 kd z hw Z,r2,q];rw [Z] at q;rw [e,e',(u3 kd z _ (by show _∈QS p;rw [ea,q];exact uI _ uf)).1 ad]
variable {x:Str}
theorem yet_cv {S:Sy.Ss (SyP qs)}(Z:qD qs x=qD qs' x):Sy.yet (cv (qs':=qs') S) x=Sy.yet S x:=by
 unfold Sy.yet;by_cases c:x∈S.stk.map (·.1)
 ·rw [A3 c];exact A3 c
 ·rw [A2 c];refine(A2 (show¬x∈(cv (qs':=qs') S).stk.map (·.1) from c)).trans ?_
  cases U:g0D x (qD qs x) with
  |none=>
   have O:g0D x (qD qs' x)=none:=by rw [<-Z];exact U
   rw [show(SyP qs).g0 x=UU from U,show(SyP qs').g0 x=UU from O]
   show u_ (u_ (Wc (qD qs' x)))=u_ (u_ (Wc (qD qs x)));rw [Z]
  |some g=>
   have O:g0D x (qD qs' x)=u_ g:=by rw [<-Z];exact U
   rw [show(SyP qs).g0 x=u_ g from U,show(SyP qs').g0 x=u_ g from O]
   rfl
theorem al_step (hq:Qn qs)(hs:∀z,z≠ch->qD qs z=qD qs' z)(h:Dn qs n don)(U:∀p∈don,Unt qs' ch p){S:Sy.Ss (SyP qs)}(h0:Sy.SOk n S)(sub:∀m∈Sy.jI S,m∈don.map (·.1)):Sy.nxt (cv (qs':=qs') S)=cv (Sy.nxt S):=by
 have hc:=h0.chn;cases O:S.stk with
 |nil=>
  unfold Sy.nxt;rw [O,show(cv (qs':=qs') S).stk= [] from O]
 |cons q r=>
  erw[q,m,g];rw [O] at hc;erw[hc,[s,k,hg,hk],_,_];have hg:g0D m (qD qs m)=u_ s:=hg;have hk:g=itP qs k s:=hk;have Z:(cv (qs':=qs') S).stk=(m,g)::r:=O;have hm:m∈don.map (·.1):=sub m (by unfold Sy.jI;rw [O];exact vg _ uf)
  cases he:Gp.en g with
  |some dd=>
   have f1:(SyP qs).fin g=true:=by show(Gp.en g).isSome=v_;rw [he];rfl
   rw [Sy.nxt_fin O f1];exact Sy.nxt_fin (Y:=SyP qs') Z f1
  |none=>
   have f1:(SyP qs).fin g=false:=by show(Gp.en g).isSome=UV;rw [he];rfl
   erw[al_want (qs':=qs') hq h U hg hm hk he,w1,w2];cases hw:yD g with
   |none=>
    rw [Sy.Kk O f1 hw];refine(Sy.Kk (Y:=SyP qs') Z f1 hw).trans ?_;rw [show(SyP qs').own g=(SyP qs).own g from w2 hw]
    rfl
   |some x=>
    have hx:=hs x (w1 x hw);have ye:=yet_cv (S:=S) hx;cases hy:Sy.yet S x with
    |some o=>
     rw [hy] at ye;rw [Sy.nxt_yet O f1 hw hy];refine(Sy.nxt_yet (Y:=SyP qs') Z f1 hw ye).trans ?_;cases o<;>rfl
    |none=>
     rw [hy] at ye;erw[Sy.jJ hy,_,[g',aa],_];rw [Sy.nxt_in O f1 hw hy aa];have ac:(SyP qs').g0 x=u_ g':=by
      have aa:g0D x (qD qs x)=u_ g':=aa;show g0D x (qD qs' x)=u_ g';rwa [<-hx]
     exact Sy.nxt_in (Y:=SyP qs') Z f1 hw ye ac
theorem al_dn (hq:Qn qs)(Z:∀z,z≠ch->qD qs z=qD qs' z)(hn:n≠ch)(h:Dn qs n don)(U:∀p∈don,Unt qs' ch p):Dn qs' n don:=by
 erw[id h,J,hJ];cases O:g0D n (qD qs n) with
 |none=>
  have e:g0D n (qD qs' n)=none:=by rw [<-Z n hn];exact O
  rw [Z1 O h];exact⟨(0),by show Sy.S0 (SyP qs') n=_;unfold Sy.S0;rw [show(SyP qs').g0 n=UU from e];rfl⟩
 |some s=>
  have e:g0D n (qD qs' n)=u_ s:=by rw [<-Z n hn];exact O
  have aa:∀j,j<=J->Sy.nx (Sy.S0 (SyP qs') n) j=cv (Sy.nx (Sy.S0 (SyP qs) n) j):=by
   intro j
   induction j with
   |zero=>
    intro _;show Sy.S0 (SyP qs') n=cv (Sy.S0 (SyP qs) n);unfold Sy.S0;rw [show(SyP qs').g0 n=u_ s from e,show(SyP qs).g0 n=u_ s from O]
    rfl
   |succ j ih=>
    intro hj;show Sy.nxt (Sy.nx (Sy.S0 (SyP qs') n) j)=cv (Sy.nxt (Sy.nx (Sy.S0 (SyP qs) n) j));rw [ih ()]
    refine al_step hq Z h U (Sy.nx_ok (yC qs) (Sy.S0_ok O) j) λm hm=> ?_;obtain⟨d,hd⟩:=Uk (show j<=J by omega)
    have:=Sy.nx_nms hm d;rwa [hd,hJ] at this
  exact⟨J,by rw [aa J (uh _),hJ];rfl⟩
theorem al_run {s s':Gp}(h:Dn qs n don)(h':Dn qs' n don)(hm:m∈don.map (·.1))(Z:g0D m (qD qs m)=u_ s)(O:g0D m (qD qs' m)=u_ s'):itP qs 302 s=itP qs' 302 s':=by
 erw[A8.mp hm,[m',p],U,e];cases(show m'=m from e)
 erw[jO h U,s1,e1,e2];erw[jO h' U,s2,e3,e4];cases Z.symm.trans e1;cases O.symm.trans e3;exact e2.symm.trans e4
theorem al_ans (h:Dn qs n don)(h':Dn qs' n don)(hm:m∈don.map (·.1)):ansT qs m=ansT qs' m:=by
 erw[A8.mp hm,[m',p],Z,e];cases(show m'=m from e)
 erw[jO h Z,s1,O,e2];erw[jO h' Z,s2,U,e4];have O:g0D m (qD qs m)=u_ s1:=O;have U:g0D m (qD qs' m)=u_ s2:=U;unfold ansT;rw [O,U];dsimp only;rw [al_run h h' hm O U]
end
end K25
namespace K25
open PySem L2 PyProof.Rows
inductive sp_fullr (CP:Addr) (vs:List V) (H:Hp) (Q:VK) (E_:XK):Prop
 |mk (px:Addr) (n:Str) (qs:List (Str×D)) (gp:Gp) (_:vs= [.ref px,.str n]) (_:nm n=v_) (_:yw CP H px qs) (_:Qn qs) (_:g0D n (qD qs n)=u_ gp) (_:∀v H',Same H H'->GI (itP qs 302 gp)->(itP qs 302 gp).en.isSome=v_->Is H' (JJ (itP qs 302 gp)) v->Q v H')
inductive sp_ansof (CP:Addr) (vs:List V) (H:Hp) (Q:VK) (E_:XK):Prop
 |mk (px:Addr) (n:Str) (qs:List (Str×D)) (_:vs= [.ref px,.str n]) (_:nm n=v_) (_:yw CP H px qs) (_:Qn qs) (_:∀v H',Same H H'->Is H' (ansT qs n) v->nrg (ansT qs n)->Q v H')
section
variable {P:o9}{w:og}{K:o0}{mg:Str->om o6}{base:o8}{a:Ad}{g:Ga}
theorem ok_fullr (T:Tx K mg a)(C:Fx K w mg g a):#[K,16,a.WD,a.WC,["project","name"],(sp_fullr a.qF)]:=by
 have QX:=#[Kz,T,C];refine T.g_full_run.F.ok wf () (λ_ _ _ _ H vs Q E hr h=> ?_)
 erw[h,px,n,qs,gp,rfl,hn,hP,hq,hg,k];exists _,%[#[qE,(2),wf.nd,#[qt,QX,hr.mono (),T.g_order_from,#v[pv 0,pv 1]]],#[qI,#[pt_cmp,6,#[pc_dnotin,5,Q5 hr,pv 1,#[qN,5,pv 2,rfl]],_],%[|Y2],qy]|#[qu,#[QJ,#[qN,5,pv 2,rfl],pv 1]]]
 exists 7
 exists 8,N1,q1;refine⟨0,0,px,n,qs,1,hn,hP,hq,λH' o rk uk fk don _ h _=>q1 _ _ ?_⟩;erw[rk_vs h.ks,vs,e1,e2,e3];have hk:vs.map (·.1)=(don.map λq=>(q.1,JJ q.2)).map (·.1):=by rw [e2,uJ];rfl
 have hi:L2.IsL H' ((don.map λq=>(q.1,JJ q.2)).map (·.2)) (vs.map (·.2)):=by rw [e3,uJ];exact h.vs
 have Z:=h.dr;rw [e1] at Z;have he:=h.oa.e;exists 8,N2,q2;exists 0,0,o.x,_,o.dx,_,0,he,T.qx,T.Qe,of_fr o,o.dr,0,DGet.k (k:=UZ n) Z,0;have hl:=zj hg h.dn;have U:=gU hl;erw[A8.mp U,[m,p],aa,rfl];have ac:m∈(don.map λq=>(q.1,JJ q.2)).map (·.1):=by rwa [uJ]
 erw[look2 hk hi ac,l1,l2];have hd:qD (don.map λq=>(q.1,JJ q.2)) m=JJ p:=dat_of (by rw [uJ];exact dn_nd h.dn) (A8.mpr [(m,p):aa:1])
 rw [hd] at l2;erw[jO h.dn aa,s0,f1,f2];have f1:g0D m (qD qs m)=u_ s0:=f1;have hg:g0D m (qD qs m)=u_ gp:=hg;rw [hg] at f1;cases f1;have f2:p=itP qs 302 gp:=f2;have O:=h.gi _ aa;have O:GI p/\p.en.isSome=true:=O;rw [l1];refine iteN rfl (q2 _ _ ?_);refine⟨0,o.x,_,o.dx,_,0,he,T.qx,T.Qe,of_fr o,0,o.dr,0,(by rw [<-l1];exact DGet.k (k:=UZ m) Z),?_⟩
 rw [f2] at l2 O;exact k _ H' h.sm O.1 O.2 l2
theorem ok_ansof (T:Tx K mg a)(C:Fx K w mg g a):#[K,16,a.wY,a.ZD,["project","name"],(sp_ansof a.qF)]:=by
 have QX:=#[Kz,T,C];have qO:=#[ok_yet,T];exists 9,T.g_answer_of,sc_answer_of
 erw[h,px,n,qs,rfl,hn,hP,hq,k];exists _,%[|#[qu,#[Qm,#[qt,QX,hr.mono (),T.g_order_from,#v[pv 0,pv 1]],T.qx,T.g_PlainOrder_answer_yet,qO,#v[pv 1]]]]
 exists 7
 refine⟨0,0,px,n,qs,1,hn,hP,hq,λH1 o rk uk fk don _ O hl=> ?_⟩;refine⟨o.x,o.dx,0,O.oa.e,X0 o _ (),0,o,n,qs,#[Y,[],don],uk,fk,1,O.oa,hq,O.sg,O.du,O.uo,O.df,O.fd,(),(λp hp=>(O.gi p hp).2),λv H2 aa k2 f2 d2 l2 _ y2=> ?_⟩
 unfold YetIs at y2;rw [dn_yet O.dn (dn_self O.dn)] at y2;erw[y2,d,hd,ha,hg];obtain⟨Z,U⟩:=hg (λz=>by cases z)
 have U:d=ansT qs n:=U.trans (ans_X O.dn (dn_self O.dn));rw [U] at hd Z;refine k v H2 (λb ob e=>k2.kept b ob (O.sm b ob e) (λz=> ?_)) hd Z;rw [A6.mp z,O.new.2.2.2] at e;cases e
inductive sp_met (CP:Addr) (vs:List V) (H:Hp) (Q:VK) (E_:XK):Prop
 |mk (px:Addr) (n:Str) (qs:List (Str×D)) (_:vs= [.ref px,.str n]) (_:nm n=v_) (_:yw CP H px qs) (_:Qn qs) (_:∀t H' don,Same H H'->H' t=u_ (.tup (don.map λp=>V.str p.1))->Dn qs n don->don.length<=20001->(∀p∈don,GI p.2/\p.2.en.isSome=v_)->Q (.ref t) H')
noncomputable def chG (f:Str->D):Nat->oj Str->D->D
 |0,_,_=> .non
 |k+1,ns,a=>match stkO a with
  |none=> .tup [.tup (ns.map D.str),.tup []]
  |some m=>if m∈ns then .tup [.tup (ns.map D.str),.tup ((ns.drop (ns.idxOf m)).map D.str)] else chG f k (ns++ [m]) (f m)
noncomputable def vlO (d:D):Bool:=match d with
 | .tup (.str k::_)=>decide (k="value")||decide (k="lack")
 |_=>UV
noncomputable def chD (qs:oj (Str×D)) (n:Str):D:=if vlO (ansT qs n)=v_ then .tup [.tup [],.tup []] else chG (ansT qs) 62 [n] (ansT qs n)
theorem chG_same {f f':Str->D}{S:oj Str}(h:∀m∈S,f m=f' m)(c:∀m∈S,∀x,stkO (f m)=u_ x->x∈S):∀(k:Nat) (ns:oj Str) (m:Str),m∈S->chG f k ns (f m)=chG f' k ns (f m)
 |0,_,_,_=>rfl
 |k+1,ns,m,hm=>by
  unfold chG;cases U:stkO (f m) with
  |none=>rfl
  |some x=>
   have O:=c m hm x U;dsimp only;split
   ·rfl
   ·rw [chG_same h c k _ x O,h x O]
variable {qs:oj (Str×D)}
theorem vl_g0 (hq:Qn qs){n:Str}(h:vlO (ansT qs n)=UV):∃g,g0D n (qD qs n)=u_ g:=by
 cases U:g0D n (qD qs n) with
 |some g=>exact[g:1]
 |none=>
  erw[Zt hq U,k,e1,O,e3];unfold ansT at h;rw [U] at h;dsimp only at h;rw [e1] at h;cases Z:Wc (qD qs n) with
  |none=>
   rw [Z] at O;have O:D.tup k= .tup [.str "lack"]:=O;rw [O] at h;exact absurd h ()
  |some v=>
   rw [Z] at O;have O:D.tup k= .tup [.str "value",v]:=O;rw [O] at h;have h:(decide (("value":Str)="value")||decide (("value":Str)="lack"))=false:=h
   rw [ub rfl] at h;cases h
variable {ch:Str}{don:oj (Str×Gp)}
theorem ch_same {qs':oj (Str×D)}(Z:Qn qs){n:Str}(hs:∀z,z≠ch->qD qs z=qD qs' z)(hn:n≠ch)(h:Dn qs n don)(h':Dn qs' n don):ansT qs n=ansT qs' n/\chD qs n=chD qs' n:=by
 cases U:g0D n (qD qs n) with
 |none=>
  have e:ansT qs n=ansT qs' n:=by
   unfold ansT;rw [<-hs n hn,U]
  exists e;unfold chD;rw [<-e];cases hv:vlO (ansT qs n) with
  |true=>rw [A3 rfl,A3 rfl]
  |false=>
   erw[vl_g0 Z hv,g,O];rw [U] at O;cases O
 |some g=>
  have hm:n∈don.map (·.1):=gU (zj U h);have e:=al_ans h h' hm;exists e;unfold chD;rw [<-e];cases hv:vlO (ansT qs n) with
  |true=>rw [A3 rfl,A3 rfl]
  |false=>
   rw [A2 u9,A2 u9];exact chG_same (S:=don.map (·.1)) (λm hm=>al_ans h h' hm) (λm hm x hx=>stk_in Z h hm hx) 62 [n] n hm
variable {CO CP b:o3}{H H':Hp}{fk:oj (Key×V)}{xs:oj V}
theorem OrdF.awayL {H0:Hp}{n:Str}{o:Oc}{rk uk:oj (Key×V)}(h:OrdF CO CP H0 H qs n o rk uk fk don)(k:Kp [b] H H')(U:H b=u_ (.lst xs))(hs:Same H0 H'):OrdF CO CP H0 H' qs n o rk uk fk don:=by
 have O:∀(c:o3) (ks:oj (Key×V)),H c=u_ (.dK ks)->c∉ [b]:=λc ks Z z=>by rw [A6.mp z,U] at Z;cases Z
 exact⟨hs,h.oa.kp k (by intro p hp;cases A6.mp hp;exact .inl [_:U]),k.kept _ _ h.dr (O _ _ h.dr),h.ks,h.vs.mono k.tk,k.kept _ _ h.du (O _ _ h.du),h.uo,k.kept _ _ h.df (O _ _ h.df),h.fd.mono k.tk,h.fl,h.dn,h.sg,h.gi,h.len,h.new,h.ne⟩
theorem yet_sp {CO CP:o3}{H0 H:Hp}{qs:oj (Str×D)}{n m:Str}{o:Oc}{rk uk fk:oj (Key×V)}{don:oj (Str×Gp)}{Q:VK}{E:XK}(hq:Qn qs)(O:OrdF CO CP H0 H qs n o rk uk fk don)(hl:fk.length<=20090)(hm:g0D m (qD qs m)=UU∨m∈don.map (·.1))
  (k:∀v H' fk',OrdF CO CP H0 H' qs n o rk uk fk' don->fk'.length<=fk.length+1->Kp [o.df] H H'->Is H' (ansT qs m) v->nrg (ansT qs m)->Q v H'):sp_yet CO CP [.ref o.x,.str m] H Q E:=by
 refine⟨o,m,qs,#[Y,[],don],uk,fk,1,O.oa,hq,O.sg,O.du,O.uo,O.df,O.fd,(),(λp hp=>(O.gi p hp).2),λv H1 fk1 k1 f1 d1 l1 _ y1=> ?_⟩
 unfold YetIs at y1;rw [dn_yet O.dn hm] at y1;erw[y1,d,hd,_,hg];obtain⟨aa,U⟩:=hg (λz=>by cases z)
 have U:d=ansT qs m:=U.trans (ans_X O.dn hm);rw [U] at hd aa;have Z:∀c,c≠o.df->c∉ [o.df]:=λc hc z=>hc (A6.mp z);have ac:∀c,H0 c≠UU->c∉ [o.df]:=λc hc=>Z c (λz=>hc (by rw [z];exact O.new.2.2.2))
 have ad:OrdF CO CP H0 H1 qs n o rk uk fk1 don:=⟨λb ob e=>k1.kept b ob (O.sm b ob e) (ac b (by rw [e];intro z;cases z)),O.oa.kp k1 (by intro p hp;cases A6.mp hp;exact .inr (.inl [_:O.df])),k1.kept _ _ O.dr (Z _ O.ne.1),O.ks,O.vs.mono k1.tk,k1.kept _ _ O.du (Z _ O.ne.2),O.uo,f1,d1,by have:=O.fl;omega,O.dn,O.sg,O.gi,O.len,O.new,O.ne⟩
 exact k v H1 fk1 ad l1 k1 hd aa
theorem idx_at {x:Str}:∀{ns:oj Str},x∈ns->ns[ns.idxOf x]? =u_ x/\∀m,m<ns.idxOf x->ns[m]? ≠u_ x
 |y::r,h=>by
  by_cases c:y=x
  ·subst c;rw [List.idxOf_cons_self];exact[1:λm hm=>absurd hm (UI m)]
  ·have O:x∈r:=by
    rcases A5.mp h with e|e
    ·exact absurd e.symm c
    ·exact e
   erw[idx_at O,h1,h2];have e:(y::r).idxOf x=r.idxOf x+1:=by
    have U:(y==x)=false:=beq_eq_false_iff_ne.mpr c;rw [List.idxOf_cons,U]
    rfl
   rw [e];refine[h1:λm hm=> ?_];cases m with
   |zero=>intro z;exact c (uH z)
   |succ m=>exact h2 m ()
theorem len_sub:∀{l m:oj Str},l.Nodup->(∀x∈l,x∈m)->l.length<=m.length
 | [],m,_,_=>uU _
 |x::r,m,hn,h=>by
  have O:=List.nodup_cons.mp hn;have Z:=h x uf;have ih:=len_sub (l:=r) (m:=m.erase x) O.2 λy hy=>by
   have U:y≠x:=λe=>O.1 (by rwa [<-e])
   exact(List.mem_erase_of_ne U).mpr (h y (uc _ hy))
  rw [List.length_erase_of_mem Z] at ih;have:=List.length_pos_of_mem Z;rw [ui];omega
theorem don_few (O:Qn qs){n:Str}(h:Dn qs n don){ns:oj Str}(hn:ns.Nodup)(U:∀x∈ns,x∈don.map (·.1)):ns.length<=60:=by
 have:=len_sub (m:=qs.map (·.1)) hn λx Z=>by
  erw[A8.mp (U x Z),[m,p],hp,rfl];erw[jO h hp,s,e,_];exact(yC qs).gn _ s e
 rw [ua] at this;exact uO this O.2.2
theorem Xa {H:Hp}:∀{zs:oj Str},(∀z∈zs,z.length<=100)->L2.IsL H (zs.map D.str) (zs.map V.str)
 | [],_=>rfl
 |z::r,h=>⟨_,0,Jd (by have:=h z uf;omega),Xa λy O=>h y (uc _ O)⟩
variable {x:Str}
theorem don_nm (O:Qn qs){n:Str}(h:Dn qs n don)(U:x∈don.map (·.1)):nm x=true:=by
 erw[A8.mp U,[m,p],Z,rfl];erw[jO h Z,s,e,_];exact O.1.1.1 _ ((yC qs).gn _ s e)
variable {m:Str}
theorem ans_sh (hq:Qn qs)(h:nrg (ansT qs m)):∃k r,ansT qs m= .tup (.str k::r)/\((k="stuck"/\∃x,r= [.str x]/\stkO (ansT qs m)=u_ x)∨(k≠"stuck"/\stkO (ansT qs m)=UU)):=by
 erw[h,k,r,e,hk];exists k,r,e;by_cases c:k="stuck"
 ·refine .inl [c:?_];subst c;unfold ansT at e⊢;cases U:g0D m (qD qs m) with
  |none=>
   rw [U] at e;erw[Zt hq U,l,e1,O,e3];dsimp only at e;rw [e1] at e;cases ho:Wc (qD qs m) with
   |none=>rw [ho] at O;rw [show D.tup l= .tup [.str "lack"] from O] at e;injection e with e;injection e with e _;injection e with e;exact absurd e ()
   |some v=>rw [ho] at O;rw [show D.tup l= .tup [.str "value",v] from O] at e;injection e with e;injection e with e _;injection e with e;exact absurd e ()
  |some g=>
   rw [U] at e;dsimp only at e⊢;have hf:=JI U;cases Z:(itP qs 302 g).en with
   |none=>rw [Z] at hf;cases hf
   |some d=>
    rw [Z] at e;have e:Qt d= .tup (.str "stuck"::r):=e;show∃x,r= [.str x]/\stkO (Qt d)=u_ x;rcases(WW hq U 302).1.en d Z with⟨z,rfl⟩|⟨y,rfl,_⟩|⟨z,rfl⟩
    ·have O:Qt (flt z)=flt z:=by unfold Qt flt;dsimp only;exact A2 ()
     rw [O] at e;injection e with e;injection e with e _;injection e with e;exact absurd e ()
    ·have O:Qt (.tup [.str "said",y])= .tup [.str "value",y]:=by unfold Qt;dsimp only;exact A3 rfl
     rw [O] at e;injection e with e;injection e with e _;injection e with e;exact absurd e ()
    ·have O:Qt (.tup [.str "stuck",.str z])= .tup [.str "stuck",.str z]:=by unfold Qt;dsimp only;exact A2 ()
     rw [O] at e⊢;injection e with e;injection e with _ e
     exact⟨z,e.symm,by show(if("stuck":Str)="stuck" then u_ z else UU)=u_ z;rw [A3 rfl]⟩
 ·refine .inr [c:?_];rw [e];cases r with
  |nil=>rfl
  |cons x r=>
   cases r with
   |cons y r=>cases x<;>rfl
   |nil=>
    cases x with
    |str z=>show(if k="stuck" then u_ z else UU)=UU;rw [A2 c]
    |_=>rfl
inductive sp_chain (CP:Addr) (vs:List V) (H:Hp) (Q:VK) (E_:XK):Prop
 |mk (px:Addr) (n:Str) (qs:List (Str×D)) (_:vs= [.ref px,.str n]) (_:nm n=v_) (_:yw CP H px qs) (_:Qn qs) (_:∀v H',Same H H'->Is H' (chD qs n) v->Q v H')
theorem ok_met (T:Tx K mg a)(C:Fx K w mg g a):#[K,16,a.f_met_by,a.d_met_by,["project","name"],(sp_met a.qF)]:=by
 have O:=#[Kz,T,C];exists 9,T.g_met_by,sc_met_by,U
 erw[h,px,n,qs,rfl,hn,Z,hq,k];exists _,%[|#[qu,#[qY,#[call_tupleD,1,rfl],T.Qy,vf,#v[#[qN,5,#[qt,O,U.mono (),T.g_order_from,#v[pv 0,pv 1]],rfl]]]]]
 exists 7
 refine⟨0,0,px,n,qs,1,hn,Z,hq,λH' o rk uk fk don _ h hl=> ?_⟩;refine⟨o.x,_,o.dx,_,0,h.oa.e,T.qx,T.Qe,of_fr o,o.dr,rk,1,.inl h.dr,λt ht=> ?_⟩;refine k t _ don (h.sm.trans (qh ht _)) ?_ h.dn h.len h.gi;rw [qi];have e:(rk.map λp=>kV p.1)=don.map λp=>V.str p.1:=by
  have:=congrArg (tu kV) h.ks;rwa [uJ,uJ] at this
 rw [e]
theorem ok_chain (T:Tx K mg a)(C:Fx K w mg g a):#[K,16,a.Ww,a.WG,["project","name"],(sp_chain a.qF)]:=by
 have QX:=#[Kz,T,C];have qO:=#[ok_yet,T];exists 9,T.g_chain_of,yW
 erw[h,px,n,qs,rfl,hn,hP,hq,k];have hs:=uA;exists _,%[#[qE,(2),yW.nd,#[qt,QX,hr.mono (),T.g_order_from,#v[pv 0,pv 1]]],#[qE,(3),yW.nd,#[Qm,pv 2,T.qx,T.g_PlainOrder_answer_yet,qO,#v[pv 1]]],#[qI,#[qr,QA,#[qQ,qP,pv 3,qm],#[qG,#v[qo,qo]],#[w]],%[|#[qu,#[qG,#v[#[qG,qf],#[qG,qf]]]]],qy],#[qE,(4),yW.nd,#[QK,#v[pv 1]]],#[Xm,#[qr,QD,#[qQ,qP,pv 3,qm],qo,qC _],%[#[qE,(5),yW.nd,#[qQ,qP,pv 3,qm]],#[qI,#[qr,QA,pv 5,pv 4,#[w]],%[|#[qu,#[qG,#v[#[qY,qU,T.Qy,vf,#v[pv 4]],#[qY,qU,T.Qy,vf,#v[#[Zx,10,sl_list,pv 4,#[wm,#[YR,uK,PySem.F.slot_list_index,PySem.F.type_list_index,mt_indexS,pv 4,#v[pv 5]]],kE]]]]]]],qy],#[Qa,#[YR,uK,vh,vi,Yc,pv 4,#v[pv 5]]]|#[qE,(3),yW.nd,#[Qm,pv 2,T.qx,T.g_PlainOrder_answer_yet,qO,#v[pv 5]]]]]|#[qu,#[qG,#v[#[qY,qU,T.Qy,vf,#v[pv 4]],#[qG,qf]]]]]
 exists 7
 exists 8,N1,q1;refine⟨0,0,px,n,qs,1,hn,hP,hq,λH1 o rk uk fk don _ hO hl=>q1 _ _ ?_⟩;exists 8,N2,q2;have aY:=hl;exists 0,o.x,o.dx,0,hO.oa.e,X0 o _ (),0
 unfold tNil;refine yet_sp hq hO () (dn_self hO.dn) λv H2 ao aB l2 K2 i2 nr=>q2 _ _ ?_
 erw[ans_sh hq nr,kk,rr,ea,aC];rw [ea] at i2;erw[id i2,qa,wa,rfl,ap,w1,r1,rfl,[rfl,aU],h3];exists 8,N3,q3;refine⟨0,qa,_,_,0,1,SqT.of ap,Ql (j:=0) rfl,(sml rfl),λt ht=> ?_⟩;have s2:=qh ht (.tup [V.str "value",V.str "lack"]);exists t,0,.inr (SqT.of qi),1,1,0;have aq:inV (V.str kk) [V.str "value",V.str "lack"]=decide (kk∈(["value","lack"]:oj Str)):=JB kk ["value","lack"];have aa:=aB.same s2;have i3:=i2.mono s2.tk;have au:=s2 _ _ ap;generalize upd H2 t (.tup [V.str "value",V.str "lack"])=H3 at aa i3 au⊢;have ak:vlO (ansT qs n)=decide (kk∈(["value","lack"]:oj Str)):=by
  rw [ea];show(decide (kk="value")||decide (kk="lack"))=_
  simp
 by_cases cv:kk∈(["value","lack"]:oj Str)
 ·refine iteB (aq.trans (ub cv)) ?_;refine[uU _:λt1 h1=>[uU _:λt2 h2=>[(sml rfl):λt3 h3=> ?_]]];have m1:=qh h1 (.tup ([]:oj V));have m2:=qh h2 (.tup ([]:oj V));refine k _ _ (((aa.sm.trans m1).trans m2).trans (qh h3 _)) ?_;unfold chD;rw [ak,ub cv,A3 rfl];exact Is.new (ds:= [.tup [],.tup []]) ⟨_,0,(Is.new (ds:= []) rfl h1).mono m2.tk,_,0,Is.new (ds:= []) rfl h2,1⟩ h3
 refine iteN (aq.trans (ud cv)) (q3 _ _ ?_);have aD:chD qs n=chG (ansT qs) 62 [n] (ansT qs n):=by
  unfold chD;rw [ak,ud cv,A2 u9]
 obtain⟨g0,aE⟩:=vl_g0 hq (by rw [ak,ud cv])
 have aw:n∈don.map (·.1):=gU (zj aE hO.dn);exists 8,N4,q4;refine[0:(sml rfl):λL hL=>q4 _ _ ?_];exists 8,N5,q5;have s4:=qh hL (.lst [V.str n]);have ax:upd H3 L (.lst [V.str n]) L=u_ (.lst (([n]:oj Str).map V.str)):=qi;have ay:=aa.same s4;have i4:=i3.mono s4.tk;have aF:H L=none:=aa.sm.free hL;generalize upd H3 L (.lst [V.str n])=H4 at ax ay i4⊢
 let J_:Nat->L2.St->Hp->Prop:=λmm σ H'=>∃(ns:oj Str) (m kk:Str) (rr:oj D) (qa:o3) (fk':oj (Key×V)) (u5:om V),mm=61-ns.length/\σ= [u_ (.ref px),u_ (.str n),u_ (.ref o.x),u_ (.ref qa),u_ (.ref L),u5]/\ns.Nodup/\(∀x∈ns,x∈don.map (·.1))/\m∈don.map (·.1)/\1<=ns.length/\H' L=u_ (.lst (ns.map V.str))/\OrdF a.qq a.qF H H' qs n o rk uk fk' don/\fk'.length<=20002+ns.length/\ansT qs m= .tup (.str kk::rr)/\Is H' (.tup (.str kk::rr)) (.ref qa)/\((kk="stuck"/\∃x,rr= [.str x]/\stkO (ansT qs m)=u_ x)∨(kk≠"stuck"/\stkO (ansT qs m)=UU))/\chG (ansT qs) (63-ns.length) ns (ansT qs m)=chD qs n
 refine⟨J_,⟨_,[n],n,kk,rr,qa,ao,UU,1,1,by simp,(λx hx=>by cases A6.mp hx;exact aw),aw,uh _,ax,ay,by show ao.length<=20003;omega,ea,i4,aC,aD.symm⟩,?_⟩
 rintro mm σ H7 ⟨ns,m,kk,rr,qa,aZ,u5,rfl,rfl,af,Z,aG,a1,O,ac,aV,a2,i7,aH,ad⟩;have aW:=don_few hq hO.dn af Z;have U:∀z∈ns,z.length<=100:=λz hz=>by have:=wE (don_nm hq hO.dn (Z z hz));omega
 obtain⟨fu,aI⟩:∃fu,63-ns.length=fu+1:=[62-ns.length:()]
 rw [aI] at ad;erw[id i7,a3,wa,e1,ag,w1,r1,rfl,[rfl,aX],aJ];cases e1;exists 0,qa,_,_,0,1,SqT.of ag,Ql (j:=0) rfl,1,0;rcases aH with⟨rfl,x,rfl,hx⟩|⟨aK,hx⟩;rotate_left
 ·refine iteN (ud (λz=>aK (V.str.inj z))) (q5 _ _ ?_);refine⟨0,L,0,.inl [SqL.of O:λt1 h1=> ?_]⟩;have m1:=qh h1 (.tup (ns.map V.str));refine[uU _:λt2 h2=>[(sml rfl):λt3 h3=> ?_]];have m2:=qh h2 (.tup ([]:oj V));refine k _ _ (((ac.sm.trans m1).trans m2).trans (qh h3 _)) ?_;rw [<-ad];unfold chG;rw [hx];exact Is.new (ds:= [.tup (ns.map D.str),.tup []]) ⟨_,0,⟨t1,0,m2 _ _ qi,Xa U⟩,_,0,Is.new (ds:= []) rfl h2,1⟩ h3
 refine iteB (ub rfl) ?_;exists λσ' H'=>∃m',m'<61-ns.length/\J_ m' σ' H',λ_ _ h=>h;erw[aJ,w2,r2,rfl,[rfl,a4],aL];cases(show r2= [] from aL)
 have al:=stk_in hq hO.dn aG hx;exists 8,B1,b1;refine⟨0,qa,_,_,0,1,SqT.of ag,Ql (j:=1) rfl,b1 _ _ ?_⟩;exists 8,B2,b2;refine⟨0,0,L,0,.inl (SqL.of O),1,(by rw [U2];exact List.all_eq_true.mpr λ_ _=>rfl),0,?_⟩
 have ah:inV (V.str x) (ns.map V.str)=decide (x∈ns):=JB x ns;by_cases cx:x∈ns
 ·refine iteB (ah.trans (ub cx)) ?_;refine⟨0,L,0,.inl [SqL.of O:λt1 h1=> ?_]⟩;have m1:=qh h1 (.tup (ns.map V.str));erw[idx_at cx,aM,aN];refine⟨0,0,.inl [1:_:SqL.of (m1 _ _ O)],0,L,ns,x,ns.idxOf x,1,1,SqL.of (m1 _ _ O),aM,aN,(),0,L,0,SqL.of (m1 _ _ O),λt4 h4=> ?_⟩
  have aO:ns.idxOf x<=ns.length:=List.idxOf_le_length;rw [ZJ (by rwa [ua]),<-Fn]
  have m4:=qh h4 (.lst ((ns.drop (ns.idxOf x)).map V.str));refine[t4:0:.inl [SqL.of qi:λt5 h5=> ?_]];have m5:=qh h5 (.tup ((ns.drop (ns.idxOf x)).map V.str));refine[(sml rfl):λt6 h6=> ?_];refine k _ _ ((((ac.sm.trans m1).trans m4).trans m5).trans (qh h6 _)) ?_;rw [<-ad];unfold chG;rw [hx];dsimp only;rw [A3 cx];exact Is.new (ds:= [.tup (ns.map D.str),.tup ((ns.drop (ns.idxOf x)).map D.str)]) ⟨_,0,⟨t1,0,m5 _ _ (m4 _ _ qi),Xa U⟩,_,0,⟨t5,0,qi,Xa λz hz=>U z (tP hz)⟩,1⟩ h6
 ·refine iteN (ah.trans (ud cx)) (b2 _ _ ?_);exists 8,B3,b3;refine⟨0,.inl [1:_:SqL.of O],0,L,_,0,1,O,(by rw [ua];omega),b3 _ _ ?_⟩
  have kL:Kp [L] H7 (upd H7 L (.lst (ns.map V.str++ [V.str x]))):=⟨λb ob e nb=>by rwa [qk (λz=>nb (A6.mpr z))],Tk.updL O⟩
  have ae:=ac.awayL kL O (λb ob e=>by rw [qk (ql e aF)];exact ac.sm _ _ e)
  have am:upd H7 L (.lst (ns.map V.str++ [V.str x])) L=u_ (.lst ((ns++ [x]).map V.str)):=by rw [qi,ur];rfl
  generalize upd H7 L (.lst (ns.map V.str++ [V.str x]))=H8 at ae am⊢;exists 0,o.x,o.dx,0,ae.oa.e,X0 o _ (),0
  unfold tNil;refine yet_sp hq ae () (.inr al) λv H9 aP aQ l9 K9 i9 aR=> ?_
  erw[ans_sh hq aR,k9,r9,aA,aS];rw [aA] at i9;erw[id i9,q9,w9,rfl,_];have aT:L≠o.df:=λz=>by have:=ae.df;rw [<-z,am] at this;cases this
  refine⟨61-(ns++ [x]).length,by rw [uu,uV];omega,ns++ [x],x,k9,r9,q9,aP,0,1,?_,λy hy=> ?_,al,(by rw [uu,uV];omega),K9.kept _ _ am (λz=>aT (A6.mp z)),aQ,(by rw [uu,uV];omega),aA,i9,aS,?_⟩
  ·exact(Hy (l₁:= [x]) (l₂:=ns)).nodup_iff.mp (List.nodup_cons.mpr [cx:af])
  ·rcases A7.mp hy with hy|hy
   ·exact Z y hy
   ·cases A6.mp hy;exact al
  ·rw [<-ad];show _=chG (ansT qs) (fu+1) ns (ansT qs m)
   conv=>rhs;unfold chG
   rw [hx];dsimp only;rw [A2 cx,show 63-(ns++ [x]).length=fu by rw [uu,uV];omega]
mutual
theorem good_k:∀{d:D},good d=v_->kD d=v_
 | .str z,_=>by simp [kD]
 | .tup xs,h=>by
  have:=goodL_k (xs:=xs) (by simp only [good,uw] at h;exact h.2)
  simpa [kD] using this
 | .non,h=>by simp [good] at h
 | .int _,h=>by simp [good] at h
 | .bl _,h=>by simp [good] at h
 | .lst,h=>by simp [good] at h
 | .dct,h=>by simp [good] at h
theorem goodL_k:∀{xs:oj D},goodL xs=v_->kL xs=v_
 | [],_=>by simp [kL]
 |x::r,h=>by
  have h':good x=v_/\goodL r=true:=by simpa [goodL] using h
  simp [kL,good_k h'.1,goodL_k h'.2]
end
theorem look_k (O:Qn qs){k:Str}(z:Str)(U:isHN k=v_):kD (yM qs k z)=v_/\dp (yM qs k z)<=12:=
 [good_k (QZ (ZM O z U).1):Jn (ZM O z U).1]
noncomputable def UntA (qs':oj (Str×D))(ch:Str)(x:D):Prop:=∀kd z a,x=D.tup [.tup [.str kd,.str z],a]->(isHN kd=v_->yM qs' kd z=a)/\(isHN kd=UV->z≠ch)
theorem isL_at {H:Hp}:∀{ds:oj D}{ws:oj V}{j:Nat}{d:D}{x:V},L2.IsL H ds ws->ds[j]? =u_ d->ws[j]? =u_ x->Is H d x
 | [],_,j,d,x,h,e,_=>by cases e
 |_::r,ws,0,d,x,h,e,f=>by
  erw[h,u,O,rfl,h1,_];cases e;cases f;exact h1
 |_::r,ws,j+1,d,x,h,e,f=>by
  erw[h,u,O,rfl,_,h2];exact isL_at (ds:=r) (j:=j) h2 e f
inductive WT (CP:Addr) (vs:List V) (H:Hp) (Q:VK) (E_:XK):Prop
 |mk (px px':Addr) (n ch:Str) (qs qs':List (Str×D)) (_:vs= [.ref px,.ref px',.str n,.str ch]) (_:nm n=v_) (_:ch.length<=100) (_:yw CP H px qs) (_:Qn qs) (_:yw CP H px' qs') (_:Qn qs') (_:∀b H',Same H H'->(b=UV->n≠ch/\∃don,Dn qs n don/\∀p∈don,Unt qs' ch p)->Q (.bl b) H')
theorem ok_touched (T:Tx K mg a)(C:Fx K w mg g a):#[K,17,a.XS,a.Xe,["project","other","name","changed"],(WT a.qF)]:=by
 have Zw:=#[ok_met,T,C];have zg:=#[ok_fullr,T,C];have yk:=#[ok_looked,T];refine T.g_law_touched.F.ok QV () (λ_ _ _ s H vs Q E hr h=> ?_)
 erw[h,px,px',n,ch,qs,qs',rfl,hn,aO,hP,hq,aD,aa,k];have hs:=uA;exists _,%[#[qI,#[qr,QD,pv 2,pv 3,qC _],%[|#[qu,je]],qy],#[jV,#[WR,#[qt,Zw,hr.mono (),T.g_met_by,#v[pv 0,pv 2]]],#[qV,(4),QV.nd],%[#[ps_asg,6,#[qt,zg,hr.mono (),T.g_full_run,#v[pv 0,pv 4]],#[pg_tup,6,rfl,yu #[qV,(5),QV.nd] (yu #[qV,(6),QV.nd] wk),_,_],_,_,_],@qI _ _ _ _ _ _ _ _ #[Zm,#[qr,QD,pv 4,pv 3,qC _],#[J6,#[qr,#[op_eqN,1,hr.units],pv 6,#[qG,#v[qo,pv 3]],qC _]]].pt %[|#[qu,je]] qy|#[jV,#[WR,pv 5],#[pg_tup,6,rfl,yu #[qV,(7),QV.nd] (yu #[qV,(8),QV.nd] wk),_,_],%[|@qI _ _ _ _ _ _ _ _ #[Zm,#[qr,QD,#[qQ,qP,pv 7,qm],qo,qC _],#[J6,#[qr,QD,#[qQ,qP,pv 7,qm],qo,qC _]]].pt %[|#[qI,#[qr,#[op_neA,1,hr.units],#[Qm,pv 1,T.Ya,T.g_Project_looked_up,yk,#v[pv 7]],pv 8,qC _],%[|#[qu,je]],qy]] %[|#[qI,#[qr,QD,#[qQ,qP,pv 7,qm],pv 3,qC _],%[|#[qu,je]],qy]]]]]]|#[qu,je]]
 exists 7
 have kT:∀H',Same H H'->Q (.bl v_) H':=λH' s=>k v_ H' s (λz=>by cases z)
 exists 8,N1,q1;exists 0,0,1,0;by_cases cn:n=ch
 ·exact iteB (ub (by rw [cn])) (kT H (Same.refl _))
 refine iteN (ud (λz=>cn (V.str.inj z))) (q1 _ _ ?_);exists 8,N2,q2;refine⟨0,0,px,n,qs,1,hn,hP,hq,λt H1 don s1 ht ae aP aQ=> ?_⟩;exists t,1,[_:SqT.of ht]
 let J_:Nat->L2.St->Hp->Prop:=λi σ H'=>(∃u4 u5 u6 u7 u8,σ= [u_ (.ref px),u_ (.ref px'),u_ (.str n),u_ (.str ch),u4,u5,u6,u7,u8])/\Same H1 H'/\∀j p,j<i->don[j]? =u_ p->Unt qs' ch p
 refine zA (xs:=don.map λp=>V.str p.1) J_ [⟨_,_,_,_,0⟩:Same.refl _:λj p hj=>absurd hj (UI j)] (λi σ H' _ h=>SqT.of (h.2.1 _ _ ht)) ?_ ?_
 ·rintro i x σ H2 hx ⟨⟨u4,u5,u6,u7,u8,rfl⟩,s2,hU⟩;rw [uF] at hx;cases ac:don[i]? with
  |none=>rw [ac] at hx;cases hx
  |some pp=>
   rw [ac] at hx;erw[pp,m,p];cases(show V.str m=x from uH hx)
   have ad:=v5 ac;have aE:m∈don.map (·.1):=A8.mpr [_:ad:1];erw[jO ae ad,s,e1,e2];have e1:g0D m (qD qs m)=u_ s:=e1;have e2:p=itP qs 302 s:=e2;have al:=don_nm hq ae aE;have aR:=wE al;have S2:=s1.trans s2;show tSeq _ _ _ _ H2;exists 8,B1,b1;refine⟨0,0,px,m,qs,s,1,al,hP.same S2,hq,e1,λv H3 s3 gi fin iv=> ?_⟩;have hF:=asks_F hq e1 302;rw [fullP_eq,asksP_eq] at iv;rw [<-e2] at iv gi fin hF;erw[iv,q3,w3,rfl,aF,x3,r3,rfl,iA,x4,r4,rfl,iE,aG];cases(show r4= [] from aG)
   exists q3,0,SqT.of aF,1;refine⟨_,0,_,0,1,b1 _ _ ?_⟩;have S3:=S2.trans s3;exists 8,B2,b2;exists 0,0,1,0;by_cases cm:m=ch
   ·refine iteB (ub (by rw [cm])) ?_
    exact iteT (kT H3 S3)
   refine iteN (ud (λz=>cm (V.str.inj z))) ?_;erw[gi_nd gi fin,_,_,nE,dE];obtain⟨es,aH,aI⟩:∃es,endP p= .tup es/\p.en=u_ (.tup es):=by
    unfold endP;cases he:p.en with
    |none=>rw [he] at fin;cases fin
    |some d=>
     rcases gi.en d he with⟨z,rfl⟩|⟨y,rfl,_⟩|⟨z,rfl⟩
     ·exact[0:1]
     ·exact[0:1]
     ·exact[0:1]
   rw [aH] at iE nE dE;have nE:nL es=true:=nE;have dE:1+dpL es<=20:=dE;refine⟨0,0,(sml rfl),λt5 h5=> ?_⟩;have s5:=qh h5 (.tup [V.str "stuck",V.str ch]);have i5:Is (upd H3 t5 (.tup [V.str "stuck",V.str ch])) (.tup [.str "stuck",.str ch]) (.ref t5):=Is.new (ds:= [.str "stuck",.str ch]) ⟨_,0,Jd (),_,0,Jd (),1⟩ h5
   exists es,[.str "stuck",.str ch],iE.mono s5.tk,i5,nE,1,(),0
   have S5:=S3.trans s5;cases ce:eqNL es [.str "stuck",.str ch] with
   |true=>exact iteT (kT _ S5)
   |false=>
   refine iteF (b2 _ _ ?_);have aJ:p.en≠u_ (.tup [.str "stuck",.str ch]):=λz=>by
    rw [aI] at z;injection z with z
    injection z with z
    rw [(eqNL_iff nE).mpr z] at ce;cases ce
   have am:=iA.mono s5.tk;have ao:=s3.trans s5;generalize upd H3 t5 (.tup [V.str "stuck",V.str ch])=H5 at S5 am ao⊢;erw[am,qA,wA,rfl,ap,aq];exists 0,qA,1,[_:SqT.of ap]
   let J2_:Nat->L2.St->Hp->Prop:=λj σ H'=>(∃u7 u8,σ= [u_ (.ref px),u_ (.ref px'),u_ (.str n),u_ (.str ch),u_ (.str m),u_ (.ref qA),u_ x4,u7,u8])/\Same H5 H'/\∀l d,l<j->(QS p)[l]? =u_ d->UntA qs' ch d
   refine zA (xs:=wA) J2_ [[_:0]:Same.refl _:λl d hl=>absurd hl (UI l)] (λj σ H' _ h=>SqT.of (h.2.1 _ _ ap)) ?_ ?_
   ·rintro j x σ H6 au ⟨⟨u7,u8,rfl⟩,s6,hV⟩;have aw:=aq.mono s6.tk;have aS:=aw.length;have ax:j<(QS p).length:=by have:=(Aa.mp au).1;omega
    have ay:=ug ax;have i6:=isL_at aw ay au;erw[hF _ (uQ ax),kd,z,an,ed,aA,O];have U:∀(u7 u8:om V) (H':Hp),Same H6 H'->UntA qs' ch (QS p)[j]->J2_ (j+1) [u_ (.ref px),u_ (.ref px'),u_ (.str n),u_ (.str ch),u_ (.str m),u_ (.ref qA),u_ x4,u7,u8] H':=λu7 u8 H' s7 hu=>⟨[_:0],s6.trans s7,λl d hl hd=>by
     by_cases c:l<j
     ·exact hV l d c hd
     ·have:l=j:=by omega
      subst this;rw [ay] at hd;cases hd;exact hu⟩
    have af:((isHN kd=v_->yM qs' kd z=an)/\(isHN kd=UV->z≠ch))->UntA qs' ch (QS p)[j]:=λh aT z' a' e=>by
     rw [ed] at e;cases e;exact h
    rw [ed] at i6;erw[i6,t6,w6,rfl,aK,x7,r7,rfl,i7,x8,r8,rfl,i8,aL];cases(show r8= [] from aL)
    erw[i7,t7,w7,rfl,Z,x9,r9,rfl,[rfl,aU],xa,ra,rfl,[rfl,aN],aM];cases(show ra= [] from aM)
    exists t6,0,SqT.of aK,1;exists _,0,_,0,1;exists 0,t7,_,_,0,1,SqT.of Z,Ql (j:=0) rfl,1,0;have S6:=S5.trans s6;have ag:=aD.same S6;erw[id ag,aB,aV,aW,aX,aC,_];by_cases c1:kd="has"
    ·have hk:isHN kd=true:=by rw [c1];decide+kernel
     have ah:an=yM qs kd z:=by
      rcases O with⟨_,h⟩|h
      ·exact h
      ·rw [hk] at h;cases h
     erw[look_k hq z hk,k1,k2];erw[look_k aa z hk,k3,k4];rw [<-ah] at k1;refine iteB (ub (by rw [c1])) ?_
     refine iteT ?_;refine⟨0,px',aB,0,aC,ZC,0,px',t7,kd,z,qs',1,ag,aa,Z,aA,.inl [c1:?_]⟩;have iv:Is H6 (yM qs' kd z) (.str (if z∈qs'.map (·.1) then "yes" else "no")):=by
      unfold yM;rw [A3 c1];exact Jd (by split<;>decide)
     exists 0,yM qs' kd z,an,iv,i8,k3,k1,(),0
     cases ce:eqN (yM qs' kd z) an with
     |false=>exact iteB rfl (kT _ S6)
     |true=>exact iteN rfl (U _ _ H6 (Same.refl _) (af ⟨λ_=>(k8 (kD_n k3)).mp ce,λz=>by rw [hk] at z;cases z⟩))
    refine iteN (ud (λz=>c1 (V.str.inj z))) ?_;exists 0,t7,_,_,0,1,SqT.of Z,Ql (j:=0) rfl,1,0;by_cases c2:kd="names"
    ·have hk:isHN kd=true:=by rw [c2];decide+kernel
     have ah:an=yM qs kd z:=by
      rcases O with⟨_,h⟩|h
      ·exact h
      ·rw [hk] at h;cases h
     erw[look_k hq z hk,k1,k2];erw[look_k aa z hk,k3,k4];rw [<-ah] at k1;refine iteB (ub (by rw [c2])) ?_
     refine⟨0,px',aB,0,aC,ZC,0,px',t7,kd,z,qs',1,ag,aa,Z,aA,.inr [c2:λv7 H7 s7 i7=> ?_]⟩;have iv:Is H7 (yM qs' kd z) v7:=by
      unfold yM;rwa [A2 c1]
     exists 0,yM qs' kd z,an,iv,i8.mono s7.tk,k3,k1,(),0
     cases ce:eqN (yM qs' kd z) an with
     |false=>exact iteB rfl (kT _ (S6.trans s7))
     |true=>exact iteN rfl (U _ _ H7 s7 (af ⟨λ_=>(k8 (kD_n k3)).mp ce,λz=>by rw [hk] at z;cases z⟩))
    refine iteN (ud (λz=>c2 (V.str.inj z))) ?_;have hk:isHN kd=false:=by
     unfold isHN;rw [ud c1,ud c2]
     rfl
    exists 0,t7,_,_,0,1,SqT.of Z,Ql (j:=1) rfl,0,1,0;by_cases c3:z=ch
    ·exact iteB (ub (by rw [c3])) (kT _ S6)
    ·exact iteN (ud (λy=>c3 (V.str.inj y))) (U _ _ H6 (Same.refl _) (af ⟨(λy=>by rw [hk] at y;cases y),λ_=>c3⟩))
   ·rintro σ H6 ⟨⟨u7,u8,rfl⟩,s6,hV⟩;refine[⟨_,_,_,_,0⟩:(s2.trans ao).trans s6:λj' p' aY ak=> ?_];by_cases c:j'<i
    ·exact hU j' p' c ak
    ·have:j'=i:=by omega
     subst this;rw [ac] at ak;cases ak;refine[cm:aJ:λkd z a' hm=> ?_];have hm:D.tup [.tup [.str kd,.str z],a']∈QS p:=hm;erw[List.mem_iff_getElem?.mp hm,l,hl];have aZ:=(Aa.mp hl).1;exact hV l _ (by have:=aq.length;omega) hl kd z a' rfl
 ·rintro σ H2 ⟨⟨u4,u5,u6,u7,u8,rfl⟩,s2,hU⟩;refine q2 _ _ ?_;refine k UV H2 (s1.trans s2) λ_=>⟨cn,don,ae,λp hp=> ?_⟩;erw[List.mem_iff_getElem?.mp hp,j,hj];exact hU j p (by rw [ua];exact(Aa.mp hj).1) hj
noncomputable def runD (qs:oj (Str×D)) (n:Str):D:=match g0D n (qD qs n) with
 |none=> .non
 |some s=>JJ (itP qs 302 s)
noncomputable def toldL (qs:oj (Str×D)) (n:Str) (don:oj (Str×Gp)):oj D:= [ansT qs n,chD qs n,.tup (don.map λp=>D.str p.1),runD qs n]
inductive sp_told (CP:Addr) (vs:List V) (H:Hp) (Q:VK) (E_:XK):Prop
 |mk (px:Addr) (n:Str) (qs:List (Str×D)) (_:vs= [.ref px,.str n]) (_:nm n=v_) (_:yw CP H px qs) (_:Qn qs) (_:∀v H' don,Same H H'->Dn qs n don->Is H' (.tup (toldL qs n don)) v->Q v H')
theorem ok_told (T:Tx K mg a)(C:Fx K w mg g a):#[K,17,a.xc,a.xb,["project","name"],(sp_told a.qF)]:=by
 have Zw:=#[ok_met,T,C];have zg:=#[ok_fullr,T,C];have O:=#[ok_ansof,T,C];have U:=#[ok_chain,T,C];exists 9,T.g_law_all_told,Yu
 erw[h,px,n,qs,rfl,hn,hP,hq,k];have hs:=uA;have am:=wE hn;exists _,%[#[qE,(2),Yu.nd,Qb],#[qI,#[qr,QA,pv 1,#[qt,Zw,hr.mono (),T.g_met_by,#v[pv 0,pv 1]],#[w]],%[|#[qE,(2),Yu.nd,#[qt,zg,hr.mono (),T.g_full_run,#v[pv 0,pv 1]]]],qy]|#[qu,#[qG,#v[#[qt,O,hr.mono (),T.g_answer_of,#v[pv 0,pv 1]],#[qt,U,hr.mono (),T.g_chain_of,#v[pv 0,pv 1]],#[qt,Zw,hr.mono (),T.g_met_by,#v[pv 0,pv 1]],pv 2]]]]
 exists 7
 exists 8,N1,q1;refine q1 _ _ ?_;exists 8,N2,q2;refine⟨0,0,0,px,n,qs,1,hn,hP,hq,λt H1 don s1 ht ac ao ap=> ?_⟩;refine⟨t,0,.inr (SqT.of ht),1,(by rw [U2];exact List.all_eq_true.mpr λ_ _=>rfl),0,?_⟩
 have ad:inV (V.str n) (don.map λp=>V.str p.1)=decide (n∈don.map (·.1)):=by
  have:=JB n (don.map (·.1))
  rwa [uJ] at this
 have ae:∀(rd:D) (rv:V) (H2:Hp),Same H H2->Is H2 rd rv->(rd=runD qs n)->N2 [u_ (.ref px),u_ (.str n),u_ rv] H2:=by
  intro rd rv H2 s2 i2 e2;refine q2 _ _ ?_;refine⟨0,0,px,n,qs,1,hn,hP.same s2,hq,λv3 H3 s3 i3 _=> ?_⟩;have af:=s2.trans s3;refine⟨0,0,px,n,qs,1,hn,hP.same af,hq,λv4 H4 s4 i4=> ?_⟩;have ag:=af.trans s4;refine⟨0,0,px,n,qs,1,hn,hP.same ag,hq,λt5 H5 Z s5 ah aa _ al=> ?_⟩;have ak:=ag.trans s5;refine[0:(sml rfl):λt6 h6=> ?_];have s6:=qh h6 (.tup [v3,v4,V.ref t5,rv]);refine k _ _ Z (ak.trans s6) aa ?_;have i5:Is H5 (.tup (Z.map λp=>D.str p.1)) (.ref t5):=by
   exists t5,0,ah;have:=Xa (H:=H5) (zs:=Z.map (·.1)) λz hz=>by have:=wE (don_nm hq aa hz);omega
   rwa [uJ,uJ] at this
  unfold toldL;rw [<-e2];exact Is.new (ds:= [ansT qs n,chD qs n,.tup (Z.map λp=>D.str p.1),rd]) ⟨_,0,(i3.mono s4.tk).mono s5.tk,_,0,i4.mono s5.tk,_,0,i5,_,0,((i2.mono s3.tk).mono s4.tk).mono s5.tk,1⟩ h6
 cases hg:g0D n (qD qs n) with
 |none=>
  refine iteN (ad.trans (ud (by rw [Z1 hg ac];intro z;cases z))) ?_
  exact ae .non .non H1 s1 rfl (by unfold runD;rw [hg])
 |some s=>
  have hm:n∈don.map (·.1):=gU (zj hg ac);refine iteB (ad.trans (ub hm)) ?_;refine⟨0,0,px,n,qs,s,1,hn,hP.same s1,hq,hg,λv H2 s2 gi fin iv=> ?_⟩;exact ae _ v H2 (s1.trans s2) iv (by unfold runD;rw [hg])
theorem ko:∀zs:oj Str,nL (zs.map D.str)=v_/\dpL (zs.map D.str)<=1
 | []=>⟨1,by simp [dpL]⟩
 |z::r=>by
  erw[ko r,h1,h2];exact⟨by simp only [uq,nL,nD,h1,UG],by simp only [uq,dpL,dp];omega⟩
theorem ans_nd (Z:Qn qs)(n:Str):nD (ansT qs n)=v_/\dp (ansT qs n)<=20:=by
 unfold ansT;cases U:g0D n (qD qs n) with
 |none=>
  erw[Zt Z U,k,e1,O,_];have ha:=once_ok Z U;dsimp only;rw [e1];cases ho:Wc (qD qs n) with
  |none=>rw [ho] at O;rw [show D.tup k= .tup [.str "lack"] from O];exact⟨1,by simp [dp,dpL]⟩
  |some v=>
   rw [ho] at O ha;rw [show D.tup k= .tup [.str "value",v] from O]
   rcases ha with ha|ha
   ·rw [show v= .non from ha];exact⟨1,by simp [dp,dpL]⟩
   ·have ha:isT v=true:=ha;have:=Jn ha;exact⟨by simp only [nD,nL,wb (QZ ha),vE],by simp only [dp,dpL];omega⟩
 |some g=>
  dsimp only;have hf:=JI U;cases he:(itP qs 302 g).en with
  |none=>rw [he] at hf;cases hf
  |some d=>
   show nD (Qt d)=v_/\dp (Qt d)<=20;rcases(WW Z U 302).1.en d he with⟨z,rfl⟩|⟨y,rfl,hy⟩|⟨z,rfl⟩
   ·have O:Qt (flt z)=flt z:=by unfold Qt flt;dsimp only;exact A2 ()
    rw [O];exact⟨1,by unfold flt;simp [dp,dpL]⟩
   ·have O:Qt (.tup [.str "said",y])= .tup [.str "value",y]:=by unfold Qt;dsimp only;exact A3 rfl
    rw [O];have:=Jn hy;exact⟨by simp only [nD,nL,wb (QZ hy),vE],by simp only [dp,dpL];omega⟩
   ·have O:Qt (.tup [.str "stuck",.str z])= .tup [.str "stuck",.str z]:=by unfold Qt;dsimp only;exact A2 ()
    rw [O];exact⟨1,by simp [dp,dpL]⟩
theorem chG_nd {f:Str->D}:∀(k:Nat) (ns:oj Str) (d:D),nD (chG f k ns d)=v_/\dp (chG f k ns d)<=5
 |0,ns,d=>⟨1,by simp [chG,dp]⟩
 |k+1,ns,d=>by
  unfold chG;have h1:=ko ns;cases stkO d with
  |none=>exact⟨by simp only [nD,nL,h1.1,UG],by simp only [dp,dpL];omega⟩
  |some m=>
   have h2:=ko (ns.drop (ns.idxOf m));dsimp only;split
   ·exact⟨by simp only [nD,nL,h1.1,h2.1,UG],by simp only [dp,dpL];omega⟩
   ·exact chG_nd k _ _
theorem told_nd (O:Qn qs)(n:Str)(don:oj (Str×Gp)):nL (toldL qs n don)=v_/\dpL (toldL qs n don)<=40:=by
 erw[ans_nd O n,a1,a2];have U:nD (chD qs n)=v_/\dp (chD qs n)<=5:=by
  unfold chD;split
  ·exact⟨1,by simp [dp,dpL]⟩
  ·exact chG_nd _ _ _
 have hm:=ko (don.map (·.1));rw [uJ] at hm;have hm:nL (don.map λp=>D.str p.1)=v_/\dpL (don.map λp=>D.str p.1)<=1:=hm;have Z:nD (runD qs n)=v_/\dp (runD qs n)<=35:=by
  unfold runD;cases hg:g0D n (qD qs n) with
  |none=>exact⟨1,by simp [dp]⟩
  |some s=>
   erw[gi_nd (WW O hg 302).1 (JI hg),b1,b2,b3,b4];dsimp only;rw [fullP_eq];exact⟨by simp only [nD,nL,b1,b3,UG],by simp only [dp,dpL];omega⟩
 unfold toldL;refine[?_:?_]
 ·simp only [nL,nD,a1,U.1,hm.1,Z.1,UG]
 ·have h1:=Z.2;have h2:=U.2;have h3:=hm.2;simp only [dpL,dp] at h3⊢;omega
theorem told_same {qs':oj (Str×D)}(hq:Qn qs){n:Str}{don':oj (Str×Gp)}(Z:∀z,z≠ch->qD qs z=qD qs' z)(hn:n≠ch)(h:Dn qs n don)(U:∀p∈don,Unt qs' ch p)(h':Dn qs' n don'):toldL qs n don=toldL qs' n don':=by
 have h2:=al_dn hq Z hn h U;cases dn_one h' h2;erw[ch_same hq Z hn h h2,e1,e2];unfold toldL;rw [e1,e2];have e3:runD qs n=runD qs' n:=by
  unfold runD;cases hg:g0D n (qD qs n) with
  |none=>
   have O:g0D n (qD qs' n)=none:=by rw [<-Z n hn];exact hg
   rw [O]
  |some s=>
   have O:g0D n (qD qs' n)=u_ s:=by rw [<-Z n hn];exact hg
   rw [O];dsimp only;rw [al_run h h2 (gU (zj hg h)) hg O]
 rw [e3]
noncomputable def fltP (qs:oj (Str×D))(z:Str):oj (Str×D):=qs.filter λp=>decide (p.1≠z)
theorem fltP_ok (h:PrOk qs)(z:Str):PrOk (fltP qs z):=by
 refine[[λy U=> ?_:?_]:λp O=>h.2 p (A9.mp O).1]
 ·erw[A8.mp U,p,O,rfl];exact h.1.1 _ (A8.mpr [p:(A9.mp O).1:1])
 ·exact h.1.2.sublist (List.filter_sublist.map _)
variable {z:Str}
theorem fltP_add (h:PrOk qs){d:D}(Z:nm z=v_)(hd:Z4 d):PrOk (fltP qs z++ [(z,d)]):=by
 have h0:=fltP_ok h z;refine[[λy O=> ?_:?_]:λp U=> ?_]
 ·rw [ur] at O;rcases A7.mp O with O|O
  ·exact h0.1.1 y O
  ·cases A6.mp O;exact Z
 ·rw [ur,TU];refine⟨h0.1.2,by simp,λx hx y O e=> ?_⟩
  cases A6.mp O;erw[A8.mp hx,p,U,rfl];exact(uj (A9.mp U).2) e
 ·rcases A7.mp U with U|U
  ·exact h0.2 p U
  ·cases A6.mp U;exact hd
theorem dat_pm {ps:oj (Str×D)}(hn:(ps.map (·.1)).Nodup)(O:qs.Perm ps)(z:Str):qD qs z=qD ps z:=by
 by_cases c:z∈ps.map (·.1)
 ·exact dat_perm hn O c
 ·rw [y6 c,y6 (λh=>c (((O.map _).mem_iff).mp h))]
theorem dat_flt {ps rs:oj (Str×D)}(Z:PrOk ps)(hr:PrOk rs)(h1:∀p∈fltP ps ch,p∈rs)(h2:∀p∈rs,p.1≠ch->p∈ps)(U:z≠ch):qD ps z=qD rs z:=by
 by_cases c:z∈ps.map (·.1)
 ·exact(dat_of hr.1.2 (h1 _ (A9.mpr [dat_mem Z.1.2 c:ub U]))).symm
 ·rw [y6 c,y6 (λh=> ?_)];erw[A8.mp h,p,O,rfl];exact c (A8.mpr [p:h2 p O U:1])
theorem tab_one {ts ps:oj (Str×D)}(O:Qn qs)(U:Qn ts)(Z:PrOk ps)(h1:qs.Perm ps)(h2:ts.Perm ps):qs=ts:=by
 have hk:qs.map (·.1)=ts.map (·.1):=sorted_one O.2.1 U.2.1 ((h1.trans h2.symm).map _);rw [<-re_map O.1.1.2,<-re_map U.1.1.2,hk];exact U3 λz _=>by rw [dat_pm Z.1.2 h1,dat_pm Z.1.2 h2]
theorem lc_lstF {K:o0}{b A:o3}{H1:Hp}{tc:TT}{te:TE}{tl:L2.St}{Q:VK}{ds:oj D}{vs:oj V}(p:D->Bool)(ha:H1 b=u_ (.lst vs))(hl:L2.IsL H1 ds vs)(hn:ds.length<=UY)(hA:H1 A=UU)
  (Z:∀d x H (R:Bool->Hp->Prop),d∈ds->Same H1 H->Is H d x->R (p d) H->tc (u_ x::tl) H R)
  (aa:∀x H (R:VK),R x H->te (u_ x::tl) H R)
  (hQ:∀H' ys,Same H1 H'->H' A=u_ (.lst ys)->L2.IsL H' (ds.filter p) ys->Q (.ref A) H'):lcGo A (Itl K b) (jt 0) tc te (UU::tl) H1 Q:=by
 have ln:=hl.length;refine⟨ds.length,λi σ ys H=>(∃w,σ=w::tl)/\L2.IsL H ((ds.take i).filter p) ys/\Same H1 H,hn,[[UU:1]:1:qh hA _],?_,?_⟩
 ·rintro i σ ys H hi ⟨⟨w,rfl⟩,O,sm⟩ U ad;have ac:i<vs.length:=by omega
  exists ⟨vs,vs[i],SqL.of (sm _ _ ha),ug ac⟩;rintro x H' ⟨rfl,hx⟩;have e:=hx vs (SqL.of (sm _ _ ha));erw[hl.get (ug hi),v,e1,e2];rw [e] at e1;cases e1;have et:ds.take (i+1)=ds.take i++ [ds[i]]:=by rw [vq,ug hi];rfl
  dsimp only [jt,gY];refine Z ds[i] x H' _ (uQ hi) sm (e2.mono sm.tk) ?_;cases hp:p ds[i] with
  |true=>
   refine iteT (aa x H' _ ⟨U,⟨0⟩,?_,λc o e=> ?_⟩)
   ·rw [et,UF];have: [ds[i]].filter p= [ds[i]]:=by simp [hp]
    rw [this];have t:Tk H' (upd H' A (.lst (ys++ [x]))):=Tk.updL U;exact(O.mono t).append (L2.IsL.one ((e2.mono sm.tk).mono t))
   ·rw [qk (ql e hA)];exact sm _ _ e
  |false=>
   refine iteF ⟨U,⟨0⟩,?_,sm⟩;rw [et,UF];have: [ds[i]].filter p= []:=by simp [hp]
   rwa [this,v6]
 ·rintro σ ys H ⟨_,O,sm⟩ U;rw [U6] at O;exact[[vs:SqL.of (sm _ _ ha):()]:hQ H ys sm U O]
noncomputable def keyD:D->Str
 | .tup (.str z::_)=>z
 |_=>""
theorem flt_prD (qs:oj (Str×D))(z:Str):(qs.map prD).filter (λd=>decide (keyD d≠z))=(fltP qs z).map prD:=by
 unfold fltP;rw [List.filter_map]
 rfl
theorem ins_pr {rs:oj (Str×D)}{ws:oj V}{p:Str×D}{x:V}(i:Nat)(h:L2.IsL H (rs.map prD) ws)(O:Is H (prD p) x):L2.IsL H ((rs.take i++p::rs.drop i).map prD) (ws.take i++x::ws.drop i):=by
 induction i generalizing rs ws with
 |zero=>exact⟨_,0,O,h⟩
 |succ i U=>
  cases rs with
  |nil=>
   cases(show ws= [] from h)
   exact⟨_,0,O,1⟩
  |cons r rs=>
   erw[h,u,w,rfl,h1,h2];exact⟨_,0,h1,U h2⟩
theorem ins_perm {α:Type}(l:oj α)(i:Nat)(x:α):(l.take i++x::l.drop i).Perm (l++ [x]):=by
 have h1:(l.take i++x::l.drop i).Perm (x::(l.take i++l.drop i)):=List.perm_middle;rw [H_] at h1;exact h1.trans (Hy (l₁:= [x]) (l₂:=l))
inductive sp_law (K:PySem.W.Frag) (vs:List V) (H:Hp) (Q:VK) (E_:XK):Prop
 |mk (a:Addr) (ns:List Int) (_:vs= [.ref a]) (_:SqL K H a (ns.map V.int)) (_:ns.length<=63) (_:∀H',Q (.bl v_) H')
theorem ok_law (T:Tx K mg a)(C:Fx K w mg g a):#[K,18,a.f_law,a.d_law,["script"],(sp_law K)]:=by
 have Q1:=#[ok_cell,T];have Jb:=#[ok_potQ,T];have Jh:=#[ok_srcd,T];have ku:=#[ok_lsrcs,T];have Y5:=#[ok_init,T];have X3:=#[ok_drawn,T];have Y7:=#[ok_told,T,C];have Ky:=#[ok_touched,T,C];exists 9,T.g_law,jg,O
 erw[h,q,ns,rfl,hq,cn,k];have hs:=uA;exists _,%[#[qE,(1),jg.nd,#[qt,ku,O.mono (),T.g_law_sources,#v[pv 0]]],#[qE,(2),jg.nd,#[zm,T.wx,Y5,O.mono (),T.wR,T.g_Project_init,qB,#v[#[qY,qU,T.Qy,vf,#v[pv 1]]]]],#[qE,(3),jg.nd,#[QK,#v[qo,qo,qo,qo,qo,qo,qo,qo]]],#[qE,(4),jg.nd,#[QK,qf]],#[jV,#[YA,#v[#[qz,qM,T.yE,uG,#v[pv 1]]]],#[qV,(5),jg.nd],%[|#[Qa,#[YR,uK,PySem.F.slot_list_insert,PySem.F.type_list_insert,mt_insert,pv 4,#v[#[qX,jQ,#[qt,Q1,O.mono (),T.g_law_cell_at,#v[pv 0,#[qX,ya,qm,pv 5]]],#[qX,ya,pv 5,qm]],#[qQ,yd,pv 1,pv 5]]]]]],#[qE,(6),jg.nd,#[zm,T.wx,Y5,O.mono (),T.wR,T.g_Project_init,qB,#v[#[qY,qU,T.Qy,vf,#v[pv 4]]]]],#[qE,2,(7),4,jg.nd,rfl,VL rfl,#[qQ,yd,pv 3,#[qX,jQ,#[qX,kh,#[qt,Q1,O.mono (),T.g_law_cell_at,#v[pv 0,qm]],qm],qm]],_,_],#[ps_setLC,2,["pair","changed"],(1),[7],(8),12,jg.nd,rfl,Ge rfl,lcsN (qj s_law) ["script","pairs","project","names","turned","k","again","changed","rest","other","name","told"],rfl,#[KA,4,pv 1],(λ_ _ _ _ _ _=>#[qV,(0),(show Vi (["pair","changed"]:oj Str) by decide+kernel)]),(λ_ _ _ _ _ _=>#[pif_one,3,#[qr,op_ne,#[qQ,#[ix_tupK,1,K,rfl],pv 0,qm],pv 1,qC _]]),(λ_ _ _ _ _ _=>(pv 0)),_,_,_],#[qI,#[qr,kz,#[qX,jQ,#[qt,Q1,O.mono (),T.g_law_cell_at,#v[pv 0,qm]],qm],qm,qC _],%[|#[Qa,#[YR,uK,vh,vi,Yc,pv 8,#v[#[qG,#v[pv 7,#[qt,Jh,O.mono (),T.g_law_source,#v[#[qt,Jb,O.mono (),T.g_law_pot,#v[#[qt,Q1,O.mono (),T.g_law_cell_at,#v[pv 0,qm]],qm]],pv 3]]]]]]]],qy],#[qE,(9),jg.nd,#[zm,T.wx,Y5,O.mono (),T.wR,T.g_Project_init,qB,#v[#[qY,qU,T.Qy,vf,#v[pv 8]]]]],#[qI,#[qr,kz,#[qz,qM,T.yE,uG,#v[pv 1]],qm,qC _],%[|#[qE,(3),jg.nd,#[qt,X3,O.mono (),T.g_law_drawn_names,#v[pv 0,qm,qm]]]],qy],#[jV,#[KA,4,#[qX,WO,pv 3,#[QK,#v[qo]]]],#[qV,(10),jg.nd],%[#[qE,(11),jg.nd,#[qt,Y7,O.mono (),T.g_law_all_told,#v[pv 2,pv 10]]],#[qI,#[qr,#[op_neTN,1,O.units],#[qt,Y7,O.mono (),T.g_law_all_told,#v[pv 6,pv 10]],pv 11,qC _],%[|#[qu,je]],qy]|@qI _ _ _ _ _ _ _ _ #[pw_and,7,#[Qz,#[Qq,#[qt,Ky,O.mono (),T.g_law_touched,#v[pv 2,pv 9,pv 10,pv 7]]]],#[Ki,4,#[qr,#[op_neTN,1,O.units],#[qt,Y7,O.mono (),T.g_law_all_told,#v[pv 9,pv 10]],pv 11,qC _]]].pt %[|#[qu,je]] qy]]|#[qu,je]]
 exists 7
 exists 8,N1,q1;refine⟨0,q,ns,1,hq,λL ps us H1 s1 hL af hok cp cq=>q1 _ _ ?_⟩;have aV:=af.length;rw [ua] at aV;exists 8,N2,q2;refine⟨0,L,us,1,.inl [SqL.of hL:λt ht=> ?_]⟩;have m1:=qh ht (.tup us);intro x dx nx bG cr;have m2:Same (upd H1 t (.tup us)) (upd (upd (upd H1 t (.tup us)) dx (.own x)) x (.ins a.qF dx [])):=λb ob e=>by
  rwa [qk (ql e nx),qk (ql e bG)]
 have aW:=m1.trans m2;refine⟨x,dx,t,ps,us,1,qi,m2 _ _ qi,af.mono aW.tk,hok,(),λqs H2 keep hP hT aX=>[1:q2 _ _ ?_]⟩
 have s2:Same H1 H2:=λb ob e=>keep b ob (aW _ _ e) (ql (m1 _ _ e) nx);exists 8,N3,q3;refine[sml rfl:λl hl=>q3 _ _ ?_];have m3:=qh hl (.lst (N8.map V.str));have aB:upd H2 l (.lst (N8.map V.str)) l=u_ (.lst (N8.map V.str)):=qi;show tSeq _ _ _ _ (upd H2 l (.lst (N8.map V.str)));exists 8,N4,q4;generalize upd H2 l (.lst (N8.map V.str))=H3 at m3 aB⊢;refine[uU _:λZ al=>q4 _ _ ?_];have m4:=qh al (.lst ([]:oj V));have au:upd H3 Z (.lst []) Z=u_ (.lst []):=qi;have ag:=(s2.trans m3).trans m4;have aY:=ag _ _ hL;have aZ:=af.mono ag.tk;have aw:H1 Z=none:=(s2.trans m3).free al;have a1:=m4 _ _ aB;have bH:l≠Z:=ql aB al;exists 8,N5,q5;show tFor _ _ _ _ _ (upd H3 Z (.lst []));generalize upd H3 Z (.lst [])=H4 at m4 au ag aY aZ a1⊢;exists 0,L,0,.inl (SqL.of aY),us.length,1,(),()
 let J_:Nat->L2.St->Hp->Prop:=λi σ H'=>∃(rs:oj (Str×D)) (ws:oj V) (u5:om V),σ= [u_ (.ref q),u_ (.ref L),u_ (.ref x),u_ (.ref l),u_ (.ref Z),u5,UU,UU,UU,UU,UU,UU]/\Kp [Z] H4 H'/\H' Z=u_ (.lst ws)/\L2.IsL H' (rs.map prD) ws/\rs.Perm (ps.take i)
 have a2:∀(b:o3) (ob:HO),H1 b=u_ ob->b∉ [Z]:=λb ob e z=>ql e aw (A6.mp z);have cs:L≠Z:=ql hL aw;refine ZW (n:=us.length) (lo:=0) J_ ⟨[],[],UU,1,Kp.of (Same.refl _),au,1,.refl _⟩ ?_ ?_
 ·rintro i σ H5 hi ⟨rs,ws,u5,rfl,K5,ah,iw,pm⟩;have ad:Same H1 H5:=λb ob e=>K5.kept b ob (ag _ _ e) (a2 b ob e);have a3:i<ps.length:=by omega
  have cu:rs.length=i:=by rw [pm.length_eq,vy];omega
  have bI:=iw.length;rw [ua] at bI;have hx:=isL_at (af.mono ad.tk) (j:=i) (by rw [uF,ug a3];rfl) (ug hi)
  refine⟨0,.inl [1:_:SqL.of ah],0,0,_,0,1,q,ns,0,(),sq_sm (sq_sm hq s1) ad,λc=> ?_⟩
  obtain⟨i',bJ,cd⟩:∃i':Nat,c%(0+(i:Int)+1)=(i':Int)/\i'<=i:=by
   have h1:=U0 c (show(0+(i:Int)+1)≠0 by omega)
   have h2:=vJ c (show 0<0+(i:Int)+1 by omega)
   exact[(c%(0+(i:Int)+1)).toNat:():()]
  refine⟨0,_,0,1,_,0,1,(by show(0:Int)<0+(i:Int)+1;omega),?_⟩
  dsimp only;rw [bJ];refine⟨0,0,L,_,_,us[i],1,1,SqL.of (ad _ _ hL),?_,?_⟩
  ·rw [show(0:Int)+(i:Int)=((i:Nat):Int) by omega]
   exact Ql (ug hi)
  exists Z,ws,i',0,1,ah,(),()
  have tk:=Tk.updL (ys:=ws.take i'++us[i]::ws.drop i') ah;refine⟨rs.take i'++ps[i]::rs.drop i',_,0,K5.trans ⟨λb ob e nb=>by rwa [qk (λz=>nb (A6.mpr z))],tk⟩,qi,(ins_pr i' iw hx).mono tk,?_⟩
  have et:ps.take (i+1)=ps.take i++ [ps[i]]:=by rw [vq,ug a3];rfl
  rw [et];exact(ins_perm rs i' ps[i]).trans (pm.append_right _)
 rintro σ H5 ⟨rs,ws,u5,rfl,K5,ah,iw,pm⟩;rw [aV,U6] at pm;refine q5 _ _ ?_;have ad:Same H1 H5:=λb ob e=>K5.kept b ob (ag _ _ e) (a2 b ob e);have bK:Same H2 H5:=λb ob e=>K5.kept b ob (m4 _ _ (m3 _ _ e)) (λz=>ql (m3 _ _ e) al (A6.mp z));have bL:=K5.kept _ _ a1 (λz=>bH (A6.mp z));have a4:=ad _ _ hL;have a5:=af.mono ad.tk;have bM:=hP.same bK;have a6:=hok.perm pm;have a7:=s1.trans ad;exists 8,N6,q6;refine⟨0,Z,ws,1,.inl [SqL.of ah:λt6 bN=> ?_]⟩;have m5:=qh bN (.tup ws);intro x6 aC a8 a9 ce;have m6:Same (upd H5 t6 (.tup ws)) (upd (upd (upd H5 t6 (.tup ws)) aC (.own x6)) x6 (.ins a.qF aC [])):=λb ob e=>by
  rwa [qk (ql e a8),qk (ql e a9)]
 have ba:=m5.trans m6;refine⟨x6,aC,t6,rs,ws,1,qi,m6 _ _ qi,iw.mono ba.tk,a6,(by rw [pm.length_eq];omega),λcw H6 aD bO bc bd=>[1:q6 _ _ ?_]⟩
 have s6:Same H5 H6:=λb ob e=>aD b ob (ba _ _ e) (ql (m5 _ _ e) a8);cases tab_one hT bc hok aX (bd.trans pm);have aE:=s6 _ _ bL;exists 8,N7,q7;refine⟨0,0,q,ns,(3),1,(),sq_sm hq (a7.trans s6),λc=> ?_⟩
 refine⟨_,0,1,[():()],_,0,1,(by show(0:Int)<8;decide),?_⟩
 obtain⟨i7,bP,be⟩:∃i7:Nat,c/7%8=(i7:Int)/\i7<8:=[(c/7%8).toNat:():()]
 dsimp only;rw [bP];have h8:i7<N8.length:=be;refine⟨l,_,_,V.str N8[i7],1,1,SqL.of aE,Ql (by rw [uF,ug h8];rfl),?_⟩
 have aF:=n8_ok N8[i7] (uQ h8);generalize N8[i7]=ch at aF⊢;refine q7 _ _ ?_;exists 8,cx,q8;have aG:=s6 _ _ a4;have bf:=a5.mono s6.tk;refine⟨0,L,1,[_:SqL.of aG],λA0 bg=> ?_⟩;refine lc_lstF (λd=>decide (keyD d≠ch)) aG bf (by rw [ua];omega) bg ?_ (λy H R r=>[0:r]) ?_
 ·intro d y H7 R hd s7 iy r;erw[A8.mp hd,pp,cy,rfl];erw[iy,t7,w7,rfl,bQ,y1,r1,rfl,[rfl,_],_];exists 0,t7,_,_,0,1,SqT.of bQ,Ql (j:=0) rfl,0,1,0;have e:(!decide (V.str pp.1=V.str ch))=decide (keyD (prD pp)≠ch):=by
   show(!decide (V.str pp.1=V.str ch))=decide (pp.1≠ch);by_cases c:pp.1=ch
   ·rw [ub (by rw [c]),ud (λz=>z c)];rfl
   ·rw [ud (λz=>c (V.str.inj z)),ub c];rfl
  rwa [e]
 intro H7 aH s7 aI am;rw [flt_prD] at am;refine q8 _ _ ?_;exists 8,N9,q9;have S6:=a7.trans s6;have S7:=S6.trans s7;have bh:∀(ae:oj (Str×D)) (aa:oj V) (H8:Hp),Same H6 H8->H8 A0=u_ (.lst aa)->L2.IsL H8 (ae.map prD) aa->PrOk ae->ae.length<=21->(∀z,z≠ch->qD ps z=qD ae z)->N9 [u_ (.ref q),u_ (.ref L),u_ (.ref x),u_ (.ref l),u_ (.ref Z),u5,u_ (.ref x6),u_ (.str ch),u_ (.ref A0),UU,UU,UU] H8:=by
  intro ae aa H8 s8 bR bS bo cf bp;refine q9 _ _ ?_;exists 8,Na,qa;refine⟨0,A0,aa,1,.inl [SqL.of bR:λt9 ao=> ?_]⟩;have m7:=qh ao (.tup aa);intro x9 aJ bq bt cg;have m8:Same (upd H8 t9 (.tup aa)) (upd (upd (upd H8 t9 (.tup aa)) aJ (.own x9)) x9 (.ins a.qF aJ [])):=λb ob e=>by
   rwa [qk (ql e bq),qk (ql e bt)]
  have bu:=m7.trans m8;refine⟨x9,aJ,t9,ae,aa,1,qi,m8 _ _ qi,bS.mono bu.tk,bo,(),λaK H9 aL bT bv bw=>[1:qa _ _ ?_]⟩
  have s9:Same H8 H9:=λb ob e=>aL b ob (bu _ _ e) (ql (m7 _ _ e) bq);have ak:=s8.trans s9;have bU:∀z,z≠ch->qD qs z=qD aK z:=λz hz=>by rw [dat_pm hok.1.2 aX,dat_pm bo.1.2 bw];exact bp z hz
  have S9:=S6.trans ak;have bV:=(bM.same s6).same ak;have bW:=bO.same ak;exists 8,Nb,qb;have ax:∀(l2:o3) (zs:oj Str) (ac:Hp),Same H9 ac->ac l2=u_ (.lst (zs.map V.str))->(∀z∈zs,nm z=v_)->zs.length<=100->Nb [u_ (.ref q),u_ (.ref L),u_ (.ref x),u_ (.ref l2),u_ (.ref Z),u5,u_ (.ref x6),u_ (.str ch),u_ (.ref A0),u_ (.ref x9),UU,UU] ac:=by
   intro l2 zs ac aM aN bX cz;refine qb _ _ ?_;exists 8,Nc,qc;refine⟨0,(sml rfl),λlz hz=>⟨l2,lz,_,0,1,qh hz _ _ _ aN,qi,(by rw [ua];show zs.length+1<=UY;omega),λly hy=> ?_⟩⟩
   have m9:=(qh hz (.lst [V.str "zz"])).trans (qh hy (.lst (zs.map V.str++ [V.str "zz"])));have aO:upd (upd ac lz (.lst [V.str "zz"])) ly (.lst (zs.map V.str++ [V.str "zz"])) ly=u_ (.lst (zs.map V.str++ [V.str "zz"])):=qi;generalize upd (upd ac lz (.lst [V.str "zz"])) ly (.lst (zs.map V.str++ [V.str "zz"]))=He at m9 aO⊢;exists ly,1,[_:SqL.of aO];have se:=aM.trans m9;have bx:=bV.same se;have bA:=bW.same se;have ay:=bT.same se
   let J2_:Nat->L2.St->Hp->Prop:=λj σ H'=>(∃aP aQ,σ= [u_ (.ref q),u_ (.ref L),u_ (.ref x),u_ (.ref l2),u_ (.ref Z),u5,u_ (.ref x6),u_ (.str ch),u_ (.ref A0),u_ (.ref x9),aP,aQ])/\Same He H'
   refine for_list (xs:=zs.map V.str++ [V.str "zz"]) J2_ [[_:0]:Same.refl _] (λj σ H' _ h=>SqL.of (h.2 _ _ aO)) ?_ ?_
   ·rintro j y σ Hf hy ⟨⟨aP,aQ,rfl⟩,sf⟩;obtain⟨z,rfl,ap⟩:∃z,y=V.str z/\nm z=true:=by
     rcases A7.mp (v5 hy) with h|h
     ·erw[A8.mp h,z,hz,rfl];exact[z:1:bX z hz]
     ·cases A6.mp h;exact[0:zz_ok.1]
    show tSeq _ _ _ _ Hf;exists 8,B1,b1;refine⟨0,0,x,z,qs,1,ap,bx.same sf,hT,λv1 Hg bB bY aR i1=>b1 _ _ ?_⟩;exists 8,B2,b2;have sg:=sf.trans bY;refine⟨0,0,x6,z,qs,1,ap,bA.same sg,bc,λv2 Hh ci aS bZ i2=> ?_⟩;cases dn_one aR bZ;erw[told_nd hT z bB,k1,k2];refine⟨0,_,_,i2,i1.mono aS.tk,k1,k1,(),0,iteN (by rw [(eqNL_iff k1).mpr rfl];rfl) (b2 _ _ ?_)⟩
    have sh:=sg.trans aS;have b3:=i1.mono aS.tk;refine⟨0,0,0,0,x,x9,z,ch,qs,aK,1,ap,(),bx.same sh,hT,ay.same sh,bv,λbb Hi aq b4=> ?_⟩
    have fin:∀H',Same Hh H'->J2_ (j+1) [u_ (.ref q),u_ (.ref L),u_ (.ref x),u_ (.ref l2),u_ (.ref Z),u5,u_ (.ref x6),u_ (.str ch),u_ (.ref A0),u_ (.ref x9),u_ (.str z),u_ v1] H':=λH' s'=>[[_:0]:sh.trans s'];exists bb,1;cases bb with
    |true=>exact iteN rfl (fin Hi aq)
    |false=>
     erw[b4 rfl,aT,cj,b5,U];cases dn_one aR b5;refine iteB rfl ?_;have si:=sh.trans aq;refine⟨0,0,x9,z,aK,1,ap,ay.same si,bv,λv3 Hj ck aA b6 i3=> ?_⟩;rw [<-told_same hT bU aT aR U b6] at i3;exact⟨0,_,_,i3,(b3.mono aq.tk).mono aA.tk,k1,k1,(),0,iteN (by rw [(eqNL_iff k1).mpr rfl];rfl) (fin Hj (aq.trans aA))⟩
   ·rintro σ Hf ⟨⟨aP,aQ,rfl⟩,sf⟩;exact qc _ _ (k Hf)
  have b7:=ak _ _ aG;exists 0,L,0,.inl (SqL.of b7),_,0,1,0;have bC:=ax l N8 H9 (Same.refl _) (ak _ _ aE) (λz hz=>(n8_ok z hz).1) ()
  refine ite2 (λ_=> ?_) (λ_=>bC);refine⟨0,q,ns,(95),(3),1,sq_sm hq S9,(),(),(),λl2 zs ac aM aN b8 cm=> ?_⟩
  exact ax l2 zs ac aM aN (λz hz=>(b8 z hz).1) ()
 have cA:(fltP ps ch).length<=ps.length:=Uj ..;have bD:=sq_sm hq S7;refine⟨0,q,ns,(4),1,(),bD,λc=> ?_⟩
 refine⟨_,0,1,(by show(0:Int)<3;decide),_,0,1,0,ite2 (λ_=> ?_) (λ_=> ?_)⟩
 rotate_left
 ·refine bh (fltP ps ch) aH H7 s7 aI am (fltP_ok hok ch) () λz hz=> ?_
  exact dat_flt hok (fltP_ok hok ch) (λp hp=>hp) (λp hp _=>(A9.mp hp).1) hz
 ·refine⟨0,.inl [1:_:SqL.of aI],0,0,q,ns,(4),1,(),bD,λc2=> ?_⟩
  refine⟨_,0,(),(),λp8 H8 b9 s8 P8=> ?_⟩
  have ca:=s8 _ _ (s7 _ _ aE);refine⟨0,p8,l,N8,1,P8,ca,[():():n8_ok],λv d H9 hd iv P9 K9=> ?_⟩
  refine[(sml rfl):λt9 ao=> ?_];have m9:=qh ao (.tup [V.str ch,v]);have ip:Is (upd H9 t9 (.tup [V.str ch,v])) (prD (ch,d)) (.ref t9):=Is.new (ds:= [.str ch,d]) ⟨_,0,Jd (by have:=aF.2;omega),_,0,iv,1⟩ ao
  have cb:Same H7 H9:=K9.same s8 b9;have aU:=cb.trans m9;have bE:=aU _ _ aI;have cc:=am.length;rw [ua] at cc;exists A0,aH,0,1,bE,()
  have tk:=Tk.updL (ys:=aH++ [V.ref t9]) bE;have bF:=fltP_add hok (z:=ch) (d:=d) aF.1 hd;refine bh (fltP ps ch++ [(ch,d)]) _ _ (λb ob e=>by rw [qk (ql e bg)];exact aU _ _ (s7 _ _ e)) qi ?_ bF (by rw [uu,uV];omega) λz hz=> ?_
  ·rw [ur];exact((am.mono aU.tk).mono tk).append (L2.IsL.one (ip.mono tk))
  ·refine dat_flt hok bF (λp hp=>vg _ hp) (λp hp aT=> ?_) hz;rcases A7.mp hp with hp|hp
   ·exact(A9.mp hp).1
   ·cases A6.mp hp;exact absurd rfl aT
end
theorem tx_mk {K:o0}{h:o8}{mg:Str->om o6}(X:K.In h)(G:h.Ns Ve mg){U Z O aa f1 f2 f3 f4 f5 f6 f7 f8 f9 aU aV aW aX aY aZ a1 a2 a3 a4 a5 a6 a7 a8 a9 ba bb bc bd be bf bg bh bo bp bq bt bu bv bw bx bA bB bC bD bE bF bG bH bI bJ bK bL bM bN bO bP bQ bR bS bT bU bV bW bX bY bZ b3 b4 b5 b6 b7 b8 b9 ca cb cc cd ce cf cg ci cj:o3}{t1 t2 t3 t4 t5 t6 t7 t8 t9 ck cm:Tok}
  (aK:#[K,"Machine"]=u_ (u_ (.ref U))) (aL:Cls K U) (aB:PySem.W.makesIn K U=v_/\PySem.W.keepIn K (.ref U)=v_)
  (aO:#[K,"Going"]=u_ (u_ (.ref Z))) (aP:Cls K Z) (aJ:PySem.W.makesIn K Z=v_/\PySem.W.keepIn K (.ref Z)=v_)
  (aD:#[K,"PlainOrder"]=u_ (u_ (.ref O))) (aE:Cls K O) (af:PySem.W.makesIn K O=v_/\PySem.W.keepIn K (.ref O)=v_)
  (aM:#[K,"Project"]=u_ (u_ (.ref aa))) (aN:Cls K aa) (aC:PySem.W.makesIn K aa=v_/\PySem.W.keepIn K (.ref aa)=v_)
  (h1:FZg K "is_text" ZT f1)
  (h2:FZg K "is_tree" XA f2)
  (h3:FZg K "is_name" wM f3)
  (h4:FZg K "is_pair" ZX f4)
  (h5:FZg K "is_row_of_names" yV f5)
  (h6:FZg K "is_answer" xu f6)
  (h7:FZg K "part_of" ZU f7)
  (h8:FZg K "pieces_of" xx f8)
  (h9:FZg K "row_of" Zv f9)
  (h10:FZg K "read_lines" Jf aU)
  (h11:FZg K "rule_rows" xJ aV)
  (h12:FZg K "bad_line" X9 aW)
  (h13:FZg K "is_rule" wv aX)
  (cn:FZg K "text_made" xq aY)
  (cp:FZg K "self_made" xR aZ)
  (cq:FZg K "copy_made" xO a1)
  (cr:FZg K "row_made" zx a2)
  (cs:FZg K "put_made" zc a3)
  (cu:FZg K "join_made" xy a4)
  (cw:FZg K "first_made" j9 a5)
  (cx:FZg K "rest_made" xZ a6)
  (cy:FZg K "size_made" xQ a7)
  (cz:FZg K "cut_made" zf a8)
  (cA:FZg K "glue_made" xN a9)
  (cB:FZg K "is_jump_taken" YL ba)
  (cC:FZg K "asked_or_fault" Yf bb)
  (aQ:FZm K U "__init__" "Machine.__init__" ja bc)
  (cD:FZm K U "now" "Machine.now" ju bd)
  (cE:FZm K U "answer" "Machine.answer" Ym be)
  (cF:FZm K U "asked" "Machine.asked" YG bf)
  (cG:FZm K U "go_on" "Machine.go_on" YJ bg)
  (cH:FZm K U "is_waiting" "Machine.is_waiting" Q6 bh)
  (cI:FZm K U "do_row" "Machine.do_row" Yh bo)
  (cJ:FZm K U "hold" "Machine.hold" jc bp)
  (aR:FZm K Z "__init__" "Going.__init__" Jr bq)
  (cK:FZm K Z "begin" "Going.begin" js bt)
  (cL:FZm K Z "look" "Going.look" Jg bu)
  (cM:FZm K Z "wanted" "Going.wanted" Y8 bv)
  (cN:FZm K Z "take" "Going.take" Jq bw)
  (cO:FZm K Z "full" "Going.full" JA bx)
  (aS:FZm K O "__init__" "PlainOrder.__init__" yO bA)
  (cP:FZm K O "begin_anew" "PlainOrder.begin_anew" QN bB)
  (cQ:FZm K O "go_through" "PlainOrder.go_through" QQ bC)
  (cR:FZm K O "enter" "PlainOrder.enter" yG bD)
  (cS:FZm K O "settle" "PlainOrder.settle" yg bE)
  (cT:FZm K O "runner" "PlainOrder.runner" yj bF)
  (cU:FZm K O "leave" "PlainOrder.leave" yF bG)
  (cV:FZm K O "go_on" "PlainOrder.go_on" yJ bH)
  (cW:FZm K O "answer_yet" "PlainOrder.answer_yet" QM bI)
  (cX:FZg K "answer_at_once" Yl bJ)
  (cY:FZg K "answer_by" xn bK)
  (cZ:FZg K "check_name" JN bL)
  (c0:FZg K "check_names" jA bM)
  (c1:FZg K "order_from" Jt bN)
  (c2:FZg K "order_over" Jz bO)
  (c3:FZg K "answer_of" xj bP)
  (c4:FZg K "full_run" zt bQ)
  (c5:FZg K "chain_of" XX bR)
  (c6:FZg K "met_by" kW bS)
  (c7:FZg K "is_source" xI bT)
  (aT:FZm K aa "__init__" "Project.__init__" yY bU)
  (c8:FZm K aa "sources" "Project.sources" jj bV)
  (c9:FZm K aa "source_of" "Project.source_of" yi bW)
  (da:FZm K aa "looked_up" "Project.looked_up" QP bX)
  (de:FZg K "longest_row" jr bY)
  (dh:FZg K "_law_cell_at" jB bZ)
  (di:FZg K "_law_pot" wj b3)
  (dj:FZg K "_law_take" zh b4)
  (dk:FZg K "_law_word" ze b5)
  (dl:FZg K "_law_line" JO b6)
  (dm:FZg K "_law_rule" JU b7)
  (dq:FZg K "_law_maker" xG b8)
  (dt:FZg K "_law_leaf" JW b9)
  (dv:FZg K "_law_source" Jk ca)
  (dw:FZg K "_law_all_names" YB cb)
  (dy:FZg K "_law_link" X1 cc)
  (dz:FZg K "_law_sources" jv cd)
  (dA:FZg K "_law_wide_names" Yg ce)
  (dB:FZg K "_law_drawn_names" Q3 cf)
  (dC:FZg K "_law_touched" jF cg)
  (dD:FZg K "_law_all_told" Y9 ci)
  (dE:FZg K "law" s_law cj)
  (ax:#[K,U,"rows"])
  (ay:#[K,U,"rule"])
  (aF:#[K,U,"own"])
  (ao:#[K,U,"boxes"])
  (ap:#[K,U,"place"])
  (aA:#[K,U,"done"])
  (aq:#[K,U,"given"])
  (au:#[K,U,"there"])
  (aH:#[K,Z,"name"])
  (aG:#[K,Z,"order"])
  (aw:#[K,Z,"made_by"])
  (ak:#[K,Z,"rule_asks"])
  (am:#[K,Z,"rule_run"])
  (aI:#[K,Z,"end"])
  (ac:#[K,O,"given_project"])
  (ag:#[K,O,"stack"])
  (ad:#[K,O,"under_way"])
  (ae:#[K,O,"full_runs"])
  (ah:#[K,O,"found"])
  (al:#[K,aa,"by_name"])
  (g1:#[K,"MOST_SIGNS"]=u_ (u_ (.int 300 t1)))
  (g2:#[K,"MOST_PARTS"]=u_ (u_ (.int 40 t2)))
  (g3:#[K,"MOST_SIZE"]=u_ (u_ (.int 600 t3)))
  (g4:#[K,"MOST_DEPTH"]=u_ (u_ (.int 12 t4)))
  (g5:#[K,"MOST_NAME_SIGNS"]=u_ (u_ (.int 24 t5)))
  (g6:#[K,"LETTERS"]=u_ (u_ (.str "abcdefghijklmnopqrstuvwxyz" t6)))
  (g7:#[K,"NAME_SIGNS"]=u_ (u_ (.str "abcdefghijklmnopqrstuvwxyz0123456789./" t7)))
  (g8:#[K,"PERCENT"]=u_ (u_ (.int 37 t8)))
  (g9:#[K,"MOST_LINES"]=u_ (u_ (.int 40 t9)))
  (dF:#[K,"MOST_DONE"]=u_ (u_ (.int 300 ck)))
  (dG:#[K,"MOST_NAMES"]=u_ (u_ (.int 60 cm)))
  (zz:∀x∈(["ord","len","isinstance","str","tuple","all","int","range","zip","dict","sorted","abs","min","sum","max"]:oj Str),PySem.W.nsIn K Ve x=u_ UU):∃a,Tx K mg a:=by
 exists 6,d1,F1,Qf,h1,["value"];exists 6,d2,F2,Qf,h2,["value"];exists 6,d3,F3,Qf,h3,["value"];exists 6,d4,F4,Qf,h4,["value"];exists 6,d5,F5,Qf,h5,["tree"];exists 6,d6,F6,Qf,h6,["ask","answer"];exists 6,d7,F7,Qf,h7,["kind","piece","count"];exists 6,d8,F8,Qf,h8,["line","form"];exists 6,d9,F9,Qf,h9,["line","count"];exists 6,dH,dI,Qf,h10,["value"];exists 6,dJ,dL,Qf,h11,["tree"];exists 6,dM,dN,Qf,h12,["tree"];exists 6,dO,dP,Qf,h13,["value"];exists 6,dQ,dR,Qf,cn,["boxes","own","parts"];exists 6,dS,dU,Qf,cp,["boxes","own","parts"];exists 6,dV,dW,Qf,cq,["boxes","own","parts"];exists 6,dX,dY,Qf,cr,["boxes","own","parts"];exists 6,dZ,d0,Qf,cs,["boxes","own","parts"];exists 6,ea,eb,Qf,cu,["boxes","own","parts"];exists 6,ec,ed,Qf,cw,["boxes","own","parts"];exists 6,ef,eg,Qf,cx,["boxes","own","parts"];exists 6,eh,ei,Qf,cy,["boxes","own","parts"];exists 6,ej,ek,Qf,cz,["boxes","own","parts"];exists 6,el,em,Qf,cA,["boxes","own","parts"];exists 6,eo,eq,Qf,cB,["boxes","word","parts"];exists 6,er,et,Qf,cC,["word","held"];obtain⟨eu,ew⟩:=yS aQ ["self","rule","own"] (by rfl');obtain⟨ey,ez⟩:=yS cD ["self"] (by rfl');obtain⟨eA,eB⟩:=yS cE ["self","tree"] (by rfl');obtain⟨eC,eD⟩:=yS cF ["self"] (by rfl');obtain⟨eE,eF⟩:=yS cG ["self"] (by rfl');obtain⟨eG,eH⟩:=yS cH ["self"] (by rfl');obtain⟨eI,eJ⟩:=yS cI ["self","row"] (by rfl');obtain⟨eK,eL⟩:=yS cJ ["self","box","tree"] (by rfl');obtain⟨eM,eN⟩:=yS aR ["self","name","source","order"] (by rfl');obtain⟨eO,eP⟩:=yS cK ["self","rule"] (by rfl');obtain⟨eQ,eR⟩:=yS cL ["self"] (by rfl');obtain⟨eS,eT⟩:=yS cM ["self"] (by rfl');obtain⟨eU,eV⟩:=yS cN ["self","answer"] (by rfl');obtain⟨eW,eX⟩:=yS cO ["self"] (by rfl');obtain⟨eY,eZ⟩:=yS aS ["self","project"] (by rfl');obtain⟨e0,e1⟩:=yS cP ["self","project"] (by rfl');obtain⟨e2,e3⟩:=yS cQ ["self","name"] (by rfl');obtain⟨e4,e5⟩:=yS cR ["self","name"] (by rfl');obtain⟨e6,e7⟩:=yS cS ["self","going"] (by rfl');obtain⟨e8,e9⟩:=yS cT ["self","rule","own"] (by rfl');obtain⟨fa,fb⟩:=yS cU ["self","going"] (by rfl');obtain⟨fc,fe⟩:=yS cV ["self","going"] (by rfl');obtain⟨ff,fg⟩:=yS cW ["self","name"] (by rfl');exists 6,fh,fi,Qf,cX,["source"];exists 6,fj,fm,Qf,cY,["end"];exists 6,fo,fq,Qf,cZ,["name"];exists 6,ft,fu,Qf,c0,["names"];exists 6,fv,fw,Qf,c1,["project","name"];exists 6,fx,fy,Qf,c2,["project","names"];exists 6,fz,fA,Qf,c3,["project","name"];exists 6,fB,fC,Qf,c4,["project","name"];exists 6,fD,fE,Qf,c5,["project","name"];exists 6,fF,fG,Qf,c6,["project","name"];exists 6,fH,fI,Qf,c7,["value"];obtain⟨fJ,fK⟩:=yS aT ["self","sources"] (by rfl');obtain⟨fL,fM⟩:=yS c8 ["self"] (by rfl');obtain⟨fN,fO⟩:=yS c9 ["self","name"] (by rfl');obtain⟨fP,fQ⟩:=yS da ["self","ask"] (by rfl');exists 6,fR,fS,Qf,de,["names"];exists 6,fT,fU,Qf,dh,["script","k"];exists 6,fV,fW,Qf,di,["cell","salt"];exists 6,fX,fY,Qf,dj,["pot","many"];exists 6,fZ,f0,Qf,dk,["pot","names"];exists 6,ga,gb,Qf,dl,["pot","names","many","k"];exists 6,gc,ge,Qf,dm,["pot","names"];exists 6,gf,gg,Qf,dq,["pot","names"];exists 6,gh,gj,Qf,dt,["pot","names"];exists 6,gk,gl,Qf,dv,["pot","names"];exists 6,gm,gq,Qf,dw,["script"];exists 6,gr,gt,Qf,dy,["pot","names","k"];exists 6,gu,gv,Qf,dz,["script"];exists 6,gw,gx,Qf,dA,["script"];exists 6,gy,gz,Qf,dB,["script","salt","many"];exists 6,gA,gB,Qf,dC,["project","other","name","changed"];exists 6,gC,gD,Qf,dD,["project","name"];exists 6,gE,gF,Qf,dE,["script"];have z:∀x∈(["ord","len","isinstance","str","tuple","all","int","range","zip","dict","sorted","abs","min","sum","max"]:oj Str),mg x=none:=λx hx=>PySem.W.mg_none_of X G (zz x hx);simp only [uB,vd,uL,forall_eq_or_imp,forall_eq] at z;erw[z,z1,z2,z3,z4,z5,z6,z7,z8,z9,gG,gH,gI,gJ,gK,gL];exact[⟨f1,d1,f2,d2,f3,d3,f4,d4,f5,d5,f6,d6,f7,d7,f8,d8,f9,d9,aU,dH,aV,dJ,aW,dM,aX,dO,aY,dQ,aZ,dS,a1,dV,a2,dX,a3,dZ,a4,ea,a5,ec,a6,ef,a7,eh,a8,ej,a9,el,ba,eo,bb,er,bc,eu,bd,ey,be,eA,bf,eC,bg,eE,bh,eG,bo,eI,bp,eK,bq,eM,bt,eO,bu,eQ,bv,eS,bw,eU,bx,eW,bA,eY,bB,e0,bC,e2,bD,e4,bE,e6,bF,e8,bG,fa,bH,fc,bI,ff,bJ,fh,bK,fj,bL,fo,bM,ft,bN,fv,bO,fx,bP,fz,bQ,fB,bR,fD,bS,fF,bT,fH,bU,fJ,bV,fL,bW,fN,bX,fP,bY,fR,bZ,fT,b3,fV,b4,fX,b5,fZ,b6,ga,b7,gc,b8,gf,b9,gh,ca,gk,cb,gm,cc,gr,cd,gu,ce,gw,cf,gy,cg,gA,ci,gC,cj,gE,U,Z,O,aa⟩:⟨F1,F2,F3,F4,F5,F6,F7,F8,F9,dI,dL,dN,dP,dR,dU,dW,dY,d0,eb,ed,eg,ei,ek,em,eq,et,ew,ez,eB,eD,eF,eH,eJ,eL,eN,eP,eR,eT,eV,eX,eZ,e1,e3,e5,e7,e9,fb,fe,fg,fi,fm,fq,fu,fw,fy,fA,fC,fE,fG,fI,fK,fM,fO,fQ,fS,fU,fW,fY,f0,gb,ge,gg,gj,gl,gq,gt,gv,gx,gz,gB,gD,gF,aL,⟨aB.1,aQ.1,aQ.2.1,aB.2⟩,uM X G aK,ax,ay,aF,ao,ap,aA,aq,au,aP,⟨aJ.1,aR.1,aR.2.1,aJ.2⟩,uM X G aO,aH,aG,aw,ak,am,aI,aE,⟨af.1,aS.1,aS.2.1,af.2⟩,uM X G aD,ac,ag,ad,ae,ah,aN,⟨aC.1,aT.1,aT.2.1,aC.2⟩,uM X G aM,al,[_:uM X G g1],[_:uM X G g2],[_:uM X G g3],[_:uM X G g4],[_:uM X G g5],[_:uM X G g6],[_:uM X G g7],[_:uM X G g8],[_:uM X G g9],[_:uM X G dF],[_:uM X G dG],z1,z2,z3,z4,z5,z6,z7,z8,z9,gG,gH,gI,gJ,gK,gL⟩]
variable {K:o0}{h:o8}{mg:Str->om o6}{f:o3}{x:Str}
theorem mk1 (X:K.In h)(G:h.Ns Ve mg){O:o3}{y:Str}(z:∃m,PySem.W.nsIn K Ve y=u_ (u_ (.ref m))/\PySem.W.nsIn K O x=u_ (u_ (.ref m)))(e:mg y=u_ (.ref f)):PySem.W.nsIn K O x=u_ (u_ (.ref f)):=by
 erw[z,m,h1,h2];have:=(uM X G h1).symm.trans e;injection this with this
 injection this with this
 rw [<-this];exact h2
noncomputable def MKP:oj (Str×Str):= [("text","text_made"),("self","self_made"),("copy","copy_made"),("row","row_made"),("put","put_made"),("join","join_made"),("first","first_made"),("rest","rest_made"),("size","size_made"),("cut","cut_made"),("glue","glue_made")]
noncomputable def keyS (e:gP):om Str:=match e.key with
 | .str x _=>u_ x
 |_=>UU
variable {a:o3}{es:Array gP}{n:Nat}{z:Str}
theorem none_of (hl:K.lookup a=u_ ⟨.type "dict",UU,.dict es n,#[]⟩)(hk:es.toList.map keyS=FRM.map λx=>u_ x.1)(hz:J2 z=UU):PySem.W.nsIn K a z=u_ none:=by
 have h1:∀e∈es.toList,∃x t,e.key= .str x t/\x≠z:=by
  intro e U;have hm:keyS e∈es.toList.map keyS:=A8.mpr [e:U:1];rw [hk] at hm;erw[A8.mp hm,x,Z,ex];have O:=wT hz x Z;unfold keyS at ex;split at ex
  ·rename_i y t hy
   cases ex;exact⟨_,_,hy,O⟩
  ·cases ex
 unfold PySem.W.nsIn;rw [hl];dsimp only;have f1:es.toList.find? (λe=>e.key.isStr z)=none:=by
  rw [Uf];intro e U;erw[h1 e U,x,t,Z,O];rw [Z];exact λq=>O (uj q)
 have f2:es.toList.any (·.refKey)=false:=by
  rw [T4];intro e U;erw[h1 e U,x,t,Z,O];unfold FX;rw [Z];exact u9
 rw [f1,f2]
 rfl
theorem fx_mk {w:og}{K:o0}{h:o8}{mg:Str->om o6}{a:Ad}(T:Tx K mg a)(X:K.In h)(G:h.Ns Ve mg){aB aA aF Z O U:o3}{eF eM:Array gP}{nF nM:Nat}
  (gB:#[K,"BOXES"]=u_ (u_ (.ref aB))) (gA:#[K,"ASKING"]=u_ (u_ (.ref aA))) (gF:#[K,"FORMS"]=u_ (u_ (.ref aF))) (gM:#[K,"MAKERS"]=u_ (u_ (.ref Z)))
  (lB:TZ K aB BX) (lA:TZ K aA ["ask","has","names"]) (lF:K.lookup aF=u_ ⟨.type "dict",UU,.dict eF nF,#[]⟩) (lM:K.lookup Z=u_ ⟨.type "dict",UU,.dict eM nM,#[]⟩)
  (kF:PySem.W.KeysLit w.params eF.toList) (kM:PySem.W.KeysLit w.params eM.toList) (zF:(aF==Vf)=UV) (zM:(Z==Vf)=UV)
  (fF:∀x∈FRM,TZn K aF x.1 (x.2.map Kd.t)) (fM:∀p∈MKP,∃m,PySem.W.nsIn K Ve p.2=u_ (u_ (.ref m))/\PySem.W.nsIn K Z p.1=u_ (u_ (.ref m))) (oM:∀z∈NOMK,PySem.W.nsIn K Z z=u_ UU)
  (kk:eF.toList.map keyS=FRM.map λx=>u_ x.1)
  (g1:#[K,"BadRule"]=u_ (u_ (.ref O))) (b1:PySem.W.excIn K O VE "ValueError.__new__"=v_)
  (g2:#[K,"BadName"]=u_ (u_ (.ref U))) (b2:PySem.W.excIn K U VE "ValueError.__new__"=v_):∃g,Fx K w mg g a:=by
 refine[⟨aB,aA,aF,Z,O,U⟩:⟨uM X G gB,uM X G gA,uM X G gF,uM X G gM,λH=>lB.sq (),λH=>lA.sq (),⟨zF,eF,nF,lF,kF⟩,λx hx=> ?_,⟨zM,eM,nM,lM,kM⟩,mk1 X G (fM ("text","text_made") ()) T.g_text_made.m,mk1 X G (fM ("self","self_made") ()) T.g_self_made.m,mk1 X G (fM ("copy","copy_made") ()) T.g_copy_made.m,mk1 X G (fM ("row","row_made") ()) T.g_row_made.m,mk1 X G (fM ("put","put_made") ()) T.g_put_made.m,mk1 X G (fM ("join","join_made") ()) T.g_join_made.m,mk1 X G (fM ("first","first_made") ()) T.g_first_made.m,mk1 X G (fM ("rest","rest_made") ()) T.g_rest_made.m,mk1 X G (fM ("size","size_made") ()) T.g_size_made.m,mk1 X G (fM ("cut","cut_made") ()) T.g_cut_made.m,mk1 X G (fM ("glue","glue_made") ()) T.g_glue_made.m,oM,λz hz=>none_of lF kk hz,uM X G g1,b1,uM X G g2,b2⟩]
 erw[fF x hx,q,h1,h2];exact⟨q,h1,λH=>by rw [zl];exact h2.sq (by rw [ua];exact uO (form_few x hx) ())⟩
end K25
open PySem PySem.W PyProof.Rows L2
set_option maxRecDepth 100000 in
set_option maxHeartbeats 0 in
theorem PySem.Challenge.cw_askwright_k25_whole_by_the_project_alone_holds : PySem.Challenge.rw_askwright_k25_whole_by_the_project_alone.Holds := by
 w_on;o_law;k_head;(case hw=>w_witness2)
 k_fill
 refine L2.walk_ofK (l:=PySem.Challenge.rw_askwright_k25_whole_by_the_project_alone) (n:=63) (k:=18) (x:="script") (CX:=L2.CX0) (sp:=K25.sp_law) rfl (by decide) rfl ⟨rfl,by decide,by decide⟩ (fun w h Y=>PySem.W.kIn_of Y) ?F ?S ?C
 case F=>
  intro w mg fa h KX G hmg
  have T:∃a,K25.Tx (L2.KOf KX) mg a:=by
   dsimp only [L2.KOf]
   refine' K25.tx_mk KX G ..
   all_goals first|exact⟨by k_is,_,_,_,_,_,_,_,_,_,by k_is,by k_is,by k_is⟩|exact⟨by k_is,by k_is,_,_,_,_,_,_,_,_,_,by k_is,by k_is,by k_is⟩|(show _=_;k_is)|exact⟨by k_is,by k_is,by k_is,by k_is⟩|exact⟨by k_is,by k_is⟩|(intro x hx;simp only [uB,vd,uL] at hx;rcases hx with rfl|rfl|rfl|rfl|rfl|rfl|rfl|rfl|rfl|rfl|rfl|rfl|rfl|rfl|rfl<;>k_is)|skip
  erw[T,a,T]
  have C:∃g,K25.Fx (L2.KOf KX) w mg g a:=by
   dsimp only [L2.KOf] at T⊢
   refine' K25.fx_mk T KX G (kF:= ?kF) (kM:= ?kM) (fF:= ?fF) (fM:= ?fM) (oM:= ?oM) (kk:= ?kk) (b1:= ?b1) (b2:= ?b2) ..
   all_goals try (first|(show _=u_ (u_ _);k_is)|(show _=u_ (Obj.mk _ _ _ _);k_is)|exact⟨_,_,_,_,by k_is,rfl⟩)
   (case kF=>(repeat (first|exact trivial|refine[⟨_,_,rfl,rfl⟩:?_])));(case kM=>(repeat (first|exact trivial|refine[⟨_,_,rfl,rfl⟩:?_])))
   case fF=>
    intro x hx
    unfold FRM at hx
    simp only [uB,vd,uL] at hx
    rcases hx with rfl|rfl|rfl|rfl|rfl|rfl|rfl|rfl|rfl|rfl|rfl|rfl|rfl|rfl|rfl|rfl|rfl|rfl|rfl|rfl<;>exact⟨_,by k_is,_,_,_,_,by k_is,rfl⟩
   case fM=>
    intro x hx
    unfold K25.MKP at hx
    simp only [uB,vd,uL] at hx
    rcases hx with rfl|rfl|rfl|rfl|rfl|rfl|rfl|rfl|rfl|rfl|rfl<;>exact⟨_,by k_is,by k_is⟩
   case oM=>
    intro x hx
    unfold K25.NOMK at hx
    simp only [uB,vd,uL] at hx
    rcases hx with rfl|rfl|rfl|rfl|rfl|rfl|rfl|rfl|rfl<;>k_is
   (case kk=>rfl);(case b1=>k_exc);(case b2=>k_exc)
   all_goals rfl
  erw[C,g,C]
  have e0:=hmg.symm.trans T.g_law.m
  cases e0
  exact⟨_,T.g_law.law (fun _ _ _ _ _ _ _=>rfl),(by erw[T.g_law.F.ex,_,_,_,_,_,_,_,_,_,e,_];rw [e];rfl),fun base kb nb=>K25.ok_law T C⟩
 case S=>exact fun w H a ns hl hO hS=>⟨a,ns,rfl,hS,hl,fun _=>rfl⟩
 case C=>exact fun _ _ _ _ z=>z
